import PyProof.Rows.All
import Wide.All
import OpenK.AllK
import Wide.FinOn
import Lean
import PyProof.EqAt
import PyProof.EqKinds
import PyProof.TupleCall
import PySem.Challenge.RW_leastrow_k50_least_rows
set_option Elab.async false
set_option linter.all false
set_option maxRecDepth 100000
open PySem renaming wpAny_bind→AA,wpAny_pure→AB,starEach→AD,model→AE,Program→AG,wpAny→AH,World→AL,sizeLine→AM,wpAny_newObj_type→AN,mainGlobals→AO,cLine→AQ,wpAny_callSpecial?_slot→AS,wpAny_call_entry→AT,wpAny_holding→AV,wpAny_setState_of→AW,wpAny_seqItems→AX,FuncData→AY,compareOp→AZ,sizeLine_eq→Ac,wpAny_field→Ad,argBest→Ae,wpAny_Call_Name_kw→Af,behindInMarks→Ag,wpAny_mono→Ah,codeAny_builtin→Ai,swapsWith→Ak,binaryOp→Al,wpAny_typeNameOfWhole_keyiter→Am,wpAny_dictEntries→An,sysModules→Ao,bootBuiltins→Aq,tupleKind→Ar,wpAny_setField_rec→As,wpAny_passesOwn→At,wpAny_rule→Au,IsPair→Av,backTo→Aw,rawInt→Ax,wpAny_setField→Ay,carriedByValue→Az,wpAny_letGo→BA,codeAny_mono→BB,size_of_entries→BD,plainId_quiet→BE,wpAny_notOrdered_dict→BF,wpAny_pyIter_list→BG,assignEach→BH,firstArgMember→BI,wpAny_askSetting→BK,wpAny_attempt→BL,tupleKind_room_in1→BN
open PyProof.Rows renaming pendingOf→AC,wpS_bind→AF,Keyed→AI,wpS_pure→AJ,arrOf→AK,wpS_forRange→AU,wpS_mono→Aa,seqObj→Ab,envOfC→Aj,SortKind→Ap,wpS_modify→BC,setPending→BJ,get?_update_seq→BM
open Inhabited renaming default→AR
open PySem.W renaming Frag→aA,mg_none_of→dR,keepIn→eE,nsIn→eI,kia_one→fE,kitOne→fQ,fnOf→gB,codeIn→kF,findIn→lX,mg_of→qF,methodObj→sK,instObj→uH,lookIn→xK
open List renaming length_map→aB,mem_cons_self→aH,mem_cons_of_mem→aI,mem_singleton→aJ,getElem?_eq_some_iff→aN,mem_map→aO,map_append→aP,mem_cons→aQ,mem_append_right→aS,map_map→aV,size_toArray→aW,map_cons→aX,length_append→bB,mem_append→bC,mem_of_getElem?→bD,getElem?_map→bF,nodup_append→bJ,range→bK,mem_range→bP,getD→bR,length_cons→bU,mem_append_left→bZ,nodup_cons→cF,map_congr_left→cM,mem_map_of_mem→cN,length_take→cT,mem_singleton_self→cU,not_mem_nil→cV,extract_eq_take_drop→cY,getElem?_eq_getElem→cZ,drop_eq_getElem_cons→dJ,append_nil→dM,mem_flatMap→dO,pairwise_map→dQ,eraseIdx_eq_take_drop_succ→dU,getElem?_eq_none→dW,append_assoc→dY,filter_eq_self→eH,length_range→eM,nodup_nil→eQ,zip_cons_cons→eR,lookup_cons→eW,getElem_of_mem→eZ,take_add_one→fD,mem_filter→fG,pairwise_cons→fH,getElem_map→fJ,take_length→fM,pairwise_append→fO,getElem?_append_right→fR,map_nil→fU,take_of_length_le→fV,getElem?_append_left→gA,replicate→gI,eq_nil_of_length_eq_zero→gJ,length_pos_iff→gP,length_drop→gW,all_eq_true→gX,getElem_mem→gY,take_append_drop→hV,length_nil→iB,getElem?_of_mem→iC,perm_append_comm→iZ,map_id→jG,pairwise_iff_getElem→jN,mem_of_mem_eraseIdx→jV,find?_cons→jZ,pairwise_singleton→kE,getElem_inj→kZ,nodup_range→lA,map_drop→lC,getElem?_set_ne→lE,mem_of_mem_drop→lF,dropLast_concat_getLast→lK,length_zip→lM,filterMap_cons→lW,nodup_iff_pairwise_ne→mL,foldl_append→nN,ext_getElem?→nO,map_take→nR,ext_getElem→oK,perm_middle→oM,drop_length→oN,getElem?_set_self→oQ,eraseIdx_sublist→pQ,mem_of_mem_take→qB,getElem?_range→qS,any_cons→sJ,mem_filterMap→sL,set_eq_take_append_cons_drop→tQ,zipIdx_cons→uU,length→xG,of_mem_zip→xL,forIn_cons→xM,nil_append→xN,filter_map→xO,perm_ext_iff_of_nodup→zI
open PySem.Heap renaming get?_push_of_some→aD,lt_size→aK,get?_push_size→aZ,get?_update_other→cI,get?_update_self→dX,size_push→iI,size_update→oO
open Nat renaming le_of_ble_eq_true→aF,le_refl→aM,lt_of_lt_of_le→aY,ne_of_lt→bH,lt_of_le_of_lt→bQ,zero_le→bS,le_trans→cO,le_of_lt→cW,lt_irrefl→eA,lt_or_eq_of_le→eD,ne_of_gt→gG,lt_succ_self→jO,le_succ→kG,pow_le_pow_right→lJ,lt_or_ge→lY,lt_succ_of_lt→nT,lt_trans→pC,pow_succ→pD,min_self→pE,sub_self→pF,div_div_eq_div_mul→pG,mod_lt→tR,zero_add→uE,succ_pos→uF,le_add_right→xH
open Bool renaming false_eq_true→aR,and_eq_true→bM,false_ne_true→bN,not_true→jW,eq_iff_iff→kA,false_and→qC,and_false→qD,not_false→qE,eq_false_iff→tY,or_eq_true→xP
open PySem.SetTable renaming runEnd→cA,bits→cG,below→gC,turns→gS,layClean→hW,probe→iD,insertAt→iU,leap→mM,grown→oR,tooFull→sM
open Option renaming some→cC,map_eq_some_iff→gQ
open Int renaming emod_lt_of_pos→cK,toNat_natCast→dE,emod_nonneg→dP,ne_of_gt→kN,toNat→qT
open Array renaming length_toList→cR,getElem?_toList→dG,toList_append→dH,toList_extract→eC,perm_iff_toList_perm→gZ,getElem?_eq_none→iN,toList_push→jA,size_extract→kB,toList_inj→kX,toList_reverse→lD,mem_toList_iff→pW,toList_map→uG,getElem?_setIfInBounds→xI,replicate→xJ,getD_eq_getD_getElem?→xQ,getElem?_eq_none_iff→yB
open PySem.F renaming plainAttrs_list→jX,args_tuple_add_2→mV,slot_list_append→mW,type_list_append→mX,entry_tuple_add→nQ,slot_tuple_add→oF,slot_dict_setdefault→uI,plainAttrs_dict→zJ,plain_list_iadd→zK
open List renaming getElem?_zip_eq_some→aAh,getElem?_take_of_lt→aAM,drop_of_length_le→aCl,drop_eq_nil_of_le→aCm,pairwise_lt_range→aCn,find?_cons_of_pos→aCo,find?_cons_of_neg→aCp,set_getElem_self→aCq,length_filter_le→aCr,reverse_reverse→aFa,length_eraseIdx→aFb,take_succ_cons→aFi,reverse_append→aFj,filter_sublist→aFk,flatMap_append→aFl,filter_append→aGT,find?_eq_none→aGU,zip_nil_right→aGV,getElem_range→aGW,append_of_mem→aGX,any_eq_false→aIg,zip_nil_left→aIh,getElem_take→aIi,filter_congr→aIj,any_eq_true→aKw,zipIdx_nil→aKE,sum_append→aKF,cons→aKG,foldl_cons→aKH,take_left'→aKI,drop_left'→aKJ,range_succ→aKK,take_zero→aNe,forIn_nil→aNf,drop_drop→aNg,all_cons→aNq
open Int renaming fdiv_eq_ediv_of_nonneg→aAi,mul_comm→aPr,zero_add→aPs
open Array renaming getElem?_replicate→aAj,forIn_toList→aFp,toList→aNs
open PySem.W renaming cellsFrom_some→aAk,specialIn→aFf,kitx_list→aFg,kitx_dict→aFh,plainGet→aFq,isFn→aKM
open PySem.F renaming slot_dict_pop→aAN
open Nat renaming not_lt→aBG,le_of_eq→aFc,succ_mul→aFd,pow_zero→aFe,mul_le_mul_right→aFm,div_one→aGY,le_of_not_lt→aKL,add_assoc→aOQ
open Bool renaming and_self→aBH,beq_eq_decide_eq→aCt,not_eq_true'→aIl,true_or→aOR
open Option renaming bind_eq_bind→aCs,isSome_map→aFn,map→aFo,getD_none→aGZ,bind_some→aHa,pure_def→aIk,none→aNr
open PySem.Heap renaming get?_push_ne→aIm
open PySem.SetTable renaming slot→aIn,laid→aIo
open PySem renaming Value→BO,Shared→BP,Addr→BQ,Around→BR,Heap→BS,Obj→BZ,Stmt→BU,SetTable→BW
open PyProof.Rows renaming SortSt→BV
namespace L2
open PySem PySem.Spec PyProof.Rows
noncomputable abbrev Key:=Sum Int Str
noncomputable def vS:Key->BO->Bool
 |.inl k,v=>Value.isInt k v
 |.inr x,v=>Value.isStrOf x v
noncomputable def keyH(w:AL):Key->Int
 |.inl k=>hashInt k
 |.inr x=>hashStr w x
theorem gM:∀ {k:Key}{v:BO},vS k v=true->(∃i t,k=Sum.inl i/\v=Value.int i t)\/(∃x t,k=Sum.inr x/\v=Value.str x t)
 |.inl i,v,h=>by obtain⟨t,e⟩:=Value.isInt_shape (k:=i) (v:=v) h;exact .inl ⟨i,t,rfl,e⟩
 |.inr x,v,h=>by obtain⟨t,e⟩:=Value.isStrOf_shape (x:=x) (v:=v) h;exact .inr ⟨x,t,rfl,e⟩
theorem aEj(i:Int)(t:Tok):vS (.inl i) (.int i t)=true:=by simp[vS,Value.isInt]
theorem aEo(x:Str)(t:Tok):vS (.inr x) (.str x t)=true:=by simp[vS,Value.isStrOf]
theorem aMK(a b:Int):decide ((Sum.inl a:Key)=Sum.inl b)=(a==b):=by
 by_cases e:a=b
 ·subst e;simp
 ·have h:¬ (Sum.inl a:Key)=Sum.inl b:=λq=>e (Sum.inl.inj q)
  rw[decide_eq_false h];exact(beq_eq_false_iff_ne.mpr e).symm
theorem aMd(a b:Str):decide ((Sum.inr a:Key)=Sum.inr b)=decide (a=b):=by
 by_cases e:a=b
 ·subst e;simp
 ·have h:¬ (Sum.inr a:Key)=Sum.inr b:=λq=>e (Sum.inr.inj q)
  rw[decide_eq_false h,decide_eq_false e]
theorem aLQ(a:Int)(b:Str):decide ((Sum.inl a:Key)=Sum.inr b)=false:=decide_eq_false (λq=>nomatch q)
theorem aLJ(a:Str)(b:Int):decide ((Sum.inr a:Key)=Sum.inl b)=false:=decide_eq_false (λq=>nomatch q)
noncomputable def eY(prog:AG)(w:AL):PySem.KeyKind prog w Key where
 is:=vS
 hash:=keyH w
 inj:=λv a b ha hb=>by
  rcases gM ha with⟨i,t,rfl,rfl⟩|⟨x,t,rfl,rfl⟩
  ·rcases gM hb with⟨j,u,rfl,e⟩|⟨y,u,rfl,e⟩
   ·injection e with e1 _;rw[e1]
   ·exact nomatch e
  ·rcases gM hb with⟨j,u,rfl,e⟩|⟨y,u,rfl,e⟩
   ·exact nomatch e
   ·injection e with e1 _;rw[e1]
 byValue:=λk v h=>by rcases gM h with⟨i,t,rfl,rfl⟩|⟨x,t,rfl,rfl⟩<;>rfl
 pyHash:=λhv h=>by
  rcases gM hv with⟨i,t,rfl,rfl⟩|⟨x,t,rfl,rfl⟩
  ·exact wpAny_pyHash_int h
  ·exact wpAny_pyHash_str h
 eqBool:=λhu hv h=>by
  rcases gM hu with⟨i,t,rfl,rfl⟩|⟨x,t,rfl,rfl⟩
  ·rcases gM hv with⟨j,u,rfl,rfl⟩|⟨y,u,rfl,rfl⟩
   ·rw[aMK] at h;exact wpAny_eqBool_int h
   ·rw[aLQ] at h;exact SeqAt.EqAt.int_str i t y u _ _ _ _ h
  ·rcases gM hv with⟨j,u,rfl,rfl⟩|⟨y,u,rfl,rfl⟩
   ·rw[aLJ] at h;exact SeqAt.EqAt.str_int x t j u _ _ _ _ h
   ·rw[aMd] at h;exact wpAny_eqBool_str h
 «strs»:=λk x t v h=>by
  rcases gM h with⟨i,u,rfl,e⟩|⟨y,u,rfl,e⟩
  ·exact nomatch e
  ·injection e with e1 _
   subst e1;cases v<;>rfl
theorem aAK(prog:AG)(w:AL)(i:Int)(t:Tok):(eY prog w).is (.inl i) (.int i t)=true:=aEj i t
theorem aAD(prog:AG)(w:AL)(x:Str)(t:Tok):(eY prog w).is (.inr x) (.str x t)=true:=aEo x t
inductive V where
 |non|bl (b:Bool)|int (i:Int)|str (x:Str)|byt (b:Array UInt8)|flt (b:UInt64)|ref (a:BQ)|ty (n:String)
 deriving DecidableEq
noncomputable def RelV:V->BO->Prop
 |.non,u=>u=Value.none
 |.bl b,u=>u=Value.bool b
 |.int i,u=>∃t,u=Value.int i t
 |.str x,u=>∃t,u=Value.str x t
 |.byt b,u=>∃t,u=Value.bytes b t
 |.flt b,u=>∃t,u=Value.float b t
 |.ref a,u=>u=Value.ref a
 |.ty n,u=>u=Value.type n
abbrev Vals:List V->List BO->Prop:=Paired RelV
theorem Vals.length{xs:List V}{us:List BO}(r:Vals xs us):xs.length=us.length:=Paired.length r
theorem Vals.get:∀ {xs:List V}{us:List BO}{i:Nat}{x:V},Vals xs us->xs[i]? =some x->∃u,us[i]? =some u/\RelV x u
 |_,_,_,_,.nil,e=>by simp at e
 |_,_,0,_,.cons r _,e=>by simp at e;subst e;exact⟨_,rfl,r⟩
 |_,_,i+1,x,.cons _ t,e=>by obtain⟨u,h1,h2⟩:=Vals.get (i:=i) (x:=x) t (by simpa using e);exact⟨u,by simpa using h1,h2⟩
theorem Vals.append:∀ {xs ys:List V}{us ws:List BO},Vals xs us->Vals ys ws->Vals (xs++ys) (us++ws)
 |_,_,_,_,.nil,s=>s
 |_,_,_,_,.cons r t,s=>.cons r (Vals.append t s)
theorem Vals.take:∀ {xs:List V}{us:List BO} (n:Nat),Vals xs us->Vals (xs.take n) (us.take n)
 |_,_,0,_=>.nil
 |_,_,_+1,.nil=>.nil
 |_,_,n+1,.cons r t=>.cons r (Vals.take n t)
theorem Vals.drop:∀ {xs:List V}{us:List BO} (n:Nat),Vals xs us->Vals (xs.drop n) (us.drop n)
 |_,_,0,r=>r
 |_,_,_+1,.nil=>.nil
 |_,_,n+1,.cons _ t=>Vals.drop n t
noncomputable def RelO:Option V->Option BO->Prop
 |some v,some u=>RelV v u
 |none,none=>True
 |_,_=>False
def KV{κ:Type}:List (κ×V)->List (κ×BO)->Prop:=Paired λ(p:κ×V) (q:κ×BO)=>p.1=q.1/\RelV p.2 q.2
noncomputable def kV:Key->V
 |.inl i=>.int i
 |.inr x=>.str x
inductive HO where
 /-- a list -/
 |lst (xs:List V)
 /-- a tuple (never changes) -/
 |tup (xs:List V)
 /-- a dict whose keys are ints and texts;one whose keys are tuples of ints and texts (the empty one is both) -/
 |dK (kvs:List (Key×V))|dT (kvs:List (List Key×V))
 /-- a set of ints:its members,its size -/
 |set (S:Int->Bool) (n:Nat)
 /-- an instance of the class at C,its dict at dx,its attributes -/
 |ins (C dx:BQ) (fs:List (Str×V))
 /-- the dict of the instance at x -/
 |own (x:BQ)
 /-- the dict of an exception -/
 |xd (fs:List (Str×V))
 /-- a bound method,f of x -/
 |met (f x:BQ)
 /-- a range object lo,lo+1, .. below hi -/
 |rng (lo hi:Int)
 /-- a thing that is known to the object (the script;a dict while a loop walks it):read,never written while it is so -/
 |frz (o:BZ) (u:HO)
 /-- a code object's table -/
 |tbl (ps:Array BO)
 /-- any other thing,by what is true of its one object (a def of one's own:SetO a S n:=HO.ext λh=> ..) -/
 |ext (φ:BS->Prop)
noncomputable abbrev Hp:=BQ->Option HO
noncomputable def upd(H:Hp)(a:BQ)(o:HO):Hp:=λb=>if b=a then some o else H b
theorem cD{H:Hp}{a:BQ}{o:HO}:upd H a o a=some o:=by unfold upd;rw[if_pos rfl]
theorem bO{H:Hp}{a b:BQ}{o:HO}(h:b≠a):upd H a o b=H b:=by unfold upd;rw[if_neg h]
theorem cH{H:Hp}{a b:BQ}{o:HO}(h:H a=some o)(h':H b=none):a≠b:=by intro e;subst e;rw[h] at h';cases h'
def IsTupD(h:BS)(a:BQ)(items:Array BO):Prop:=∃o,h.get? a=some o/\o.cls=.type "tuple"/\(∃n,o.data=.seq items n)/\o.dict=none
theorem IsTupD.tup{h:BS}{a:BQ}{items:Array BO}(x:IsTupD h a items):IsTup h a items:=let ⟨o,e,c,d,_⟩:=x;⟨o,e,c,d⟩
theorem IsTupD.new(h:BS)(items:Array BO):IsTupD (h.push {cls:=.type "tuple",data:=.seq items}) h.objs.size items:=⟨_,aZ _ rfl,rfl,⟨_,rfl⟩,rfl⟩
section
variable (P:AG)(w:AL)
noncomputable def ObjOk(H:Hp)(h:BS)(a:BQ):HO->Prop
 |.lst xs=>xs.length<=AM/\∃ (its:List BO) (n:Nat),Vals xs its/\h.get? a=some {cls:=.type "list",data:=.seq its.toArray n}
 |.tup xs=>xs.length<=AM/\∃its:List BO,Vals xs its/\IsTupD h a its.toArray
 |.dK kvs=>kvs.length<=AM/\(a==Ao)=false/\∃vs,KV kvs vs/\h.DictOf (eY P w) a vs
 |.dT kvs=>kvs.length<=AM/\(a==Ao)=false/\∃xs:List (List Key×BQ×BO),
   Paired (λ(p:List Key×V) (q:List Key×BQ×BO)=>p.1=q.1/\H q.2.1=some (.tup (p.1.map kV))/\RelV p.2 q.2.2) kvs xs/\
   ∃o es ep,h.get? a=some o/\o.ExactDict/\o.data=.dict es ep/\es.toList=xs.map (entryOfKey (Ar (eY P w)))/\(xs.map (·.1)).Nodup
 |.set S n=>h.SetOf (intKind P w) a S n
 |.ins C dx fs=>H dx=some (.own a)/\fs.length<=1000/\dx≠a/\h.get? a=some (uH C dx)/\
   ∃mA,h.Ns1 dx mA/\(∀f,RelO (fs.lookup f) (mA f))/\PySem.Within mA (fs.map (·.1))
 |.own _=>∃o,h.get? a=some o
 |.xd fs=>∃mA,h.Ns1 a mA/\∀f,RelO (fs.lookup f) (mA f)
 |.rng lo hi=>∃t u v,h.get? a=some {cls:=.type "range",data:=.fields #[.int lo t,.int hi u,.int 1 v]}
 |.frz o u=>h.get? a=some o/\ObjOk H h a u
 |.tbl ps=>h.get? a=some {cls:=.none,data:=.fields ps}
 |.met f x=>h.get? a=some (sK (.ref f) (.ref x))
 |.ext φ=>φ h/\(∃o,h.get? a=some o)/\∀h1 h2:BS,φ h1->(∀o,h1.get? a=some o->h2.get? a=some o)->φ h2
def HOk(H:Hp)(h:BS):Prop:=∀a o,H a=some o->ObjOk P w H h a o
end
section
variable {P:AG}{w:AL}{H H':Hp}{h h':BS}{a:BQ}{o:HO}
theorem ObjOk.lt(x:ObjOk P w H h a o):a<h.objs.size:=by
 cases o with
 |lst xs=>obtain⟨_,_,_,_,e⟩:=x;exact aK e
 |tup xs=>obtain⟨_,_,_,p⟩:=x;exact p.tup.lt
 |dK kvs=>obtain⟨_,_,_,_,o,_,_,e,_⟩:=x;exact aK e
 |dT kvs=>obtain⟨_,_,_,_,o,_,_,e,_⟩:=x;exact aK e
 |set S n=>obtain⟨o,_,_,_,e,_⟩:=x;exact aK e
 |ins C dx fs=>obtain⟨_,_,_,e,_⟩:=x;exact aK e
 |own y=>obtain⟨_,e⟩:=x;exact aK e
 |xd fs=>obtain⟨_,⟨_,_,_,e,_⟩,_⟩:=x;exact aK e
 |rng lo hi=>obtain⟨_,_,_,e⟩:=x;exact aK e
 |frz ob u=>obtain⟨e,_⟩:=x;exact aK e
 |tbl ps=>exact aK (show h.get? a=some _ from x)
 |met f y=>exact aK (show h.get? a=some _ from x)
 |ext φ=>obtain⟨_,⟨_,e⟩,_⟩:=x;exact aK e
theorem Paired.mapP{α β:Type}{F G:α->β->Prop}:∀ {l₁:List α}{l₂:List β},Paired F l₁ l₂->(∀a b,F a b->G a b)->Paired G l₁ l₂
 |_,_,.nil,_=>.nil
 |_,_,.cons r t,f=>.cons (f _ _ r) (Paired.mapP t f)
theorem ObjOk.stay(x:ObjOk P w H h a o)(k:∀b u,(b=a\/H b=some (.own a))->h.get? b=some u->h'.get? b=some u)
  (ho:∀b,H b=some (.own a)->H' b=some (.own a)) (ht:∀b xs,H b=some (.tup xs)->H' b=some (.tup xs)):ObjOk P w H' h' a o:=by
 induction o with
 |lst xs=>obtain⟨z,its,n,r,e⟩:=x;exact⟨z,its,n,r,k _ _ (.inl rfl) e⟩
 |tup xs=>obtain⟨z,its,r,ob,e,c⟩:=x;exact⟨z,its,r,ob,k _ _ (.inl rfl) e,c⟩
 |dK kvs=>obtain⟨z,y,vs,r,ob,es,ep,e,c⟩:=x;exact⟨z,y,vs,r,ob,es,ep,k _ _ (.inl rfl) e,c⟩
 |dT kvs=>obtain⟨z,y,xs,r,ob,es,ep,e,c⟩:=x;exact⟨z,y,xs,Paired.mapP r λp q z=>⟨z.1,ht _ _ z.2.1,z.2.2⟩,ob,es,ep,k _ _ (.inl rfl) e,c⟩
 |set S n=>obtain⟨ob,es,ep,t,e,c⟩:=x;exact⟨ob,es,ep,t,k _ _ (.inl rfl) e,c⟩
 |ins C dx fs=>obtain⟨d,z,ne,e,mA,⟨od,es,ep,e2,c⟩,r⟩:=x;exact⟨ho _ d,z,ne,k _ _ (.inl rfl) e,mA,⟨od,es,ep,k _ _ (.inr d) e2,c⟩,r⟩
 |own y=>obtain⟨ob,e⟩:=x;exact⟨ob,k _ _ (.inl rfl) e⟩
 |xd fs=>obtain⟨mA,⟨od,es,ep,e,c⟩,r⟩:=x;exact⟨mA,⟨od,es,ep,k _ _ (.inl rfl) e,c⟩,r⟩
 |rng lo hi=>obtain⟨t,u,v,e⟩:=x;exact⟨t,u,v,k _ _ (.inl rfl) e⟩
 |frz ob u ih=>obtain⟨e,q⟩:=x;exact⟨k _ _ (.inl rfl) e,ih q⟩
 |tbl ps=>have e:h.get? a=some {cls:=.none,data:=.fields ps}:=x;show h'.get? a=some {cls:=.none,data:=.fields ps};exact k a _ (.inl rfl) e
 |met f y=>have e:h.get? a=some (sK (.ref f) (.ref y)):=x;show h'.get? a=some (sK (.ref f) (.ref y));exact k a _ (.inl rfl) e
 |ext φ=>obtain⟨p,⟨o,e⟩,st⟩:=x;exact⟨st _ _ p λo q=>k _ _ (.inl rfl) q,⟨o,k _ _ (.inl rfl) e⟩,st⟩
theorem HOk.lt(x:HOk P w H h)(e:H a=some o):a<h.objs.size:=(x a o e).lt
theorem HOk.fresh(x:HOk P w H h)(e:h.objs.size<=a):H a=none:=by
 cases q:H a with
 |none=>rfl
 |some u=>exact absurd (aY (x.lt q) e) (eA _)
theorem HOk.kept(x:HOk P w H h)(k:∀b u,h.get? b=some u->h'.get? b=some u):HOk P w H h':=λa o e=>(x a o e).stay (λb u _ q=>k b u q) (λ_ q=>q) λ_ _ q=>q
theorem HOk.laid(x:HOk P w H h)(k:∀b u,h.get? b=some u->h'.get? b=some u)(hp:h.objs.size<=a)(new:ObjOk P w (upd H a o) h' a o):HOk P w (upd H a o) h':=λb u e=>by
 have hn:=x.fresh hp
 by_cases hb:b=a
 ·subst hb;rw[cD] at e;cases e;exact new
 ·rw[bO hb] at e;exact(x b u e).stay (λc v _ q=>k c v q) (λc q=>by rw[bO (cH q hn)];exact q) λc xs q=>by rw[bO (cH q hn)];exact q
end
def Rd(H:Hp)(a:BQ)(u:HO):Prop:=H a=some u\/∃o,H a=some (.frz o u)
theorem Rd.of{H:Hp}{a:BQ}{u:HO}(h:H a=some u):Rd H a u:=.inl h
theorem Rd.ok{P:AG}{w:AL}{H:Hp}{h:BS}{a:BQ}{u:HO}(r:Rd H a u)(x:HOk P w H h):ObjOk P w H h a u:=by
 rcases r with r|⟨o,r⟩
 ·exact x a u r
 ·obtain⟨_,q⟩:=x a _ r;exact q
noncomputable def Mut:Option HO->Prop
 |some (.lst _)=>True
 |some (.dK _)=>True
 |some (.dT _)=>True
 |some (.set _ _)=>True
 |some (.ins _ _ _)=>True
 |some (.ext _)=>True
 |_=>False
section
variable {P:AG}{w:AL}{H:Hp}{h h':BS}{x e:BQ}{o':HO}
theorem HOk.write(ok:HOk P w H h)(mu:Mut (H x))(he:e=x\/H e=some (.own x))(k:∀b u,b≠e->h.get? b=some u->h'.get? b=some u)(heo:∃u,h'.get? e=some u)
  (new:ObjOk P w (upd H x o') h' x o'):HOk P w (upd H x o') h':=λb u q=>by
 have nown:∀c y,H c=some (.own y)->c≠x:=λc y r z=>by subst z;rw[r] at mu;exact mu
 have ntup:∀c xs,H c=some (.tup xs)->c≠x:=λc xs r z=>by subst z;rw[r] at mu;exact mu
 by_cases hb:b=x
 ·subst hb;rw[cD] at q;cases q;exact new
 ·rw[bO hb] at q
  by_cases hbe:b=e
  ·have q':H b=some (.own x):=by
    rcases he with z|z
    ·exact absurd (hbe.trans z) hb
    ·rw[hbe];exact z
   rw[q] at q';cases q';obtain⟨v,hv⟩:=heo;exact⟨v,by rw[hbe];exact hv⟩
  ·refine(ok b u q).stay (λc v hc r=>k c v ?_ r) (λc r=>by rw[bO (nown c b r)];exact r) λc xs r=>by rw[bO (ntup c xs r)];exact r
   rcases hc with rfl|hc
   ·exact hbe
   ·rintro rfl
    rcases he with z|z
    ·exact nown c b hc z
    ·rw[hc] at z;cases z;exact hb rfl
end
structure Un(fs ex:List BQ)(H H':Hp)(h h':BS):Prop where
 keep:∀b o,h.get? b=some o->H b=none->b∉fs->b∉ex->h'.get? b=some o
 slot:∀b o,h.get? b=some o->H b=none->b∈fs->b∉ex->∃sl,h'.get? b=some {o with slots:=sl}
 free:∀b o,h.get? b=some o->H b=none->b∉ex->H' b=none
 there:∀b o,h.get? b=some o->b∉ex->∃o',h'.get? b=some o'
 tups:∀b xs,H b=some (.tup xs)->H' b=some (.tup xs)
 frzs:∀b o u,H b=some (.frz o u)->H' b=some (.frz o u)
 tbls:∀b ps,H b=some (.tbl ps)->∃more,H' b=some (.tbl (ps++more))
section
variable {fs fs' ex ex':List BQ}{H H1 H2:Hp}{h h1 h2 h':BS}{a x e:BQ}{o:HO}
theorem Un.any(u:Un fs ex H H1 h h1){b:BQ}{ob:BZ}(q:h.get? b=some ob)(n:H b=none)(hx:b∉ex):∃sl,h1.get? b=some {ob with slots:=sl}:=by
 by_cases hb:b∈fs
 ·exact u.slot b ob q n hb hx
 ·exact⟨ob.slots,u.keep b ob q n hb hx⟩
theorem Un.kept(k:∀b u,h.get? b=some u->h'.get? b=some u):Un fs ex H H h h':=
 ⟨λb ob q _ _ _=>k b ob q,λb ob q _ _ _=>⟨ob.slots,k b ob q⟩,λ_ _ _ n _=>n,λb ob q _=>⟨ob,k b ob q⟩,λ_ _ q=>q,λ_ _ _ q=>q,λ_ ps q=>⟨#[],by rw[q];simp⟩⟩
theorem Un.refl:Un fs ex H H h h:=Un.kept λ_ _ q=>q
theorem Un.laid(k:∀b u,h.get? b=some u->h'.get? b=some u)(hp:h.objs.size<=a)(hn:H a=none):Un fs ex H (upd H a o) h h' where
 keep:=λb u q _ _ _=>k b u q
 slot:=λb u q _ _ _=>⟨u.slots,k b u q⟩
 free:=λb u q n _=>by rw[bO (bH (aY (aK q) hp))];exact n
 there:=λb u q _=>⟨u,k b u q⟩
 tups:=λb xs q=>by rw[bO (cH q hn)];exact q
 frzs:=λb u xs q=>by rw[bO (cH q hn)];exact q
 tbls:=λb ps q=>⟨#[],by rw[bO (cH q hn),q];simp⟩
theorem Un.write(mu:Mut (H x))(he:e=x\/H e=some (.own x))(k:∀b u,b≠e->h.get? b=some u->h'.get? b=some u)(heo:∃u,h'.get? e=some u):Un fs ex H (upd H x o) h h':=by
 have hx:∀b,H b=none->b≠x:=λb n z=>by subst z;rw[n] at mu;exact mu
 have hb:∀b,H b=none->b≠e:=λb n z=>by
  subst z
  rcases he with r|r
  ·exact hx b n r
  ·rw[n] at r;cases r
 have hm:∀b u,H b=some u->¬ Mut (some u)->b≠x:=λb u q nm z=>by subst z;rw[q] at mu;exact nm mu
 refine ⟨fun b u q n _ _=>k b u (hb b n) q,fun b u q n _ _=>⟨u.slots,k b u (hb b n) q⟩,fun b u q n _=>by rw [bO (hx b n)]; exact n,fun b u q _=> ?_,
  λb xs q=>by rw[bO (hm b _ q λz=>z)];exact q,λb u xs q=>by rw[bO (hm b _ q λz=>z)];exact q,λb ps q=>⟨#[],by rw[bO (hm b _ q λz=>z),q];simp⟩⟩
 by_cases hbe:b=e
 ·subst hbe;exact heo
 ·exact⟨u,k b u hbe q⟩
end
noncomputable def trk(h:BS)(H:Hp):List BQ:=(bK h.objs.size).filter λa=>(H a).isSome
noncomputable def aFv(h:BS)(H:Hp):BS:=PySem.W.hideAll h (trk h H)
theorem aEE(h:BS)(H:Hp):(aFv h H).objs.size=h.objs.size:=PySem.W.hideAll_size _ _
theorem aGi{h:BS}{H:Hp}{b:BQ}{o:BZ}(e:h.get? b=some o)(n:H b=none):(aFv h H).get? b=some o:=
 PySem.W.hideAll_get _ e λhm=>by have q:(H b).isSome=true:=(fG.mp hm).2;rw[n] at q;simp at q
theorem aJm{h:BS}{H:Hp}{b:BQ}{o:BZ}(e:(aFv h H).get? b=some o):h.get? b=some o/\H b=none:=by
 have e':h.get? b=some o:=PySem.W.of_hideAll (trk h H) e;refine⟨e', ?_⟩;cases q:H b with
 |none=>rfl
 |some x=>have hm:b∈trk h H:=fG.mpr ⟨bP.mpr (aK e'),by simp[q]⟩;have z:(aFv h H).get? b=none:=PySem.W.hideAll_none (trk h H) hm;rw[z] at e;cases e
noncomputable def aJi(g h:BS)(L:BQ):List (BQ×BZ):=(bK h.objs.size).filterMap λa=>if a=L\/(g.get? a).isSome=true then none else(h.get? a).map λo=>(a,o)
noncomputable def rest(g h:BS)(L d:BQ):List (BQ×BZ):=(aJi g h L).filter λp=>decide (p.1≠d)
structure Mod(K:aA)(mg:Str->Option BO)(base:BS):Prop where
 kin:K.In base
 glob:base.Ns AO mg
 blt:∃mb,base.Ns builtinsNs mb/\∀x:Str,x≠"__name__"->mb x=Aq x
 nolimit:base.NoLimit
noncomputable def zU:HO->Prop
 |.lst _=>False
 |.ext _=>False
 |_=>True
structure Cx where
 prog:AG
 w:AL
 K:aA
 mg:Str->Option BO
 base:BS
 A:BR
 N:List Str
 s₀:BP
 H₀:Hp
 env:Env
 outer:List Env
 stack:List Env
 ex:List BQ
 fn:Str->Bool
 calm:Bool
 pn:List (BQ×BZ)
 xe:BO->BP->Prop
 B₀:Hp:=H₀
 hB:∀b o,H₀ b=some o->zU o->B₀ b=some o:=by intro b o e _;exact e
noncomputable def frs(l:List Env):List BQ:=l.filterMap (·.frame)
noncomputable abbrev Cx.fs(X:Cx):List BQ:=frs X.outer
def Vis(sc:Scope)(x:Str):Prop:=sc.names.lookup x=some .local\/sc.names.lookup x=some .cell\/sc.names.lookup x=some .free
def Loc(sc:Scope)(x:Str):Prop:=sc.names.lookup x=some .local\/sc.names.lookup x=some .cell
def Look(env:Env)(h:BS)(m:Str->Option BO)(x:Str)(u:BO):Prop:=
 (env.kindOf x=some .local/\m x=some u)\/((env.kindOf x=some .cell\/env.kindOf x=some .free)/\∃c,env.cells.lookup x=some c/\h.IsCell c (some u))
structure Cx.Ok(X:Cx):Prop where
 mod:Mod X.K X.mg X.base
 kind:X.env.scope.kind=.function
 glob:X.env.globals=AO
 blt:X.env.builtins=builtinsNs
 above:X.s₀.heap.objs.size<=X.env.locals
 inj:∀x y c,X.env.cells.lookup x=some c->X.env.cells.lookup y=some c->x=y
 has:∀x,(X.env.kindOf x=some .cell\/X.env.kindOf x=some .free)->∃c,X.env.cells.lookup x=some c
 cab:∀x c,X.fn x=true->X.env.cells.lookup x=some c->X.s₀.heap.objs.size<=c
 hd:X.calm=true->X.A.handled=none
 frames:X.A.frames=some X.stack
 stk:X.stack=X.outer\/(X.stack=X.env::X.outer/\X.env.frame=some X.env.locals)
 exf:∀b∈X.ex,b≠X.env.locals/\∀x c,X.env.cells.lookup x=some c->c≠b
 bs:∀b o,X.base.get? b=some o->X.s₀.heap.get? b=some o/\X.H₀ b=none
 bsz:X.base.objs.size<=X.s₀.heap.objs.size
 noex:∀b o,X.base.get? b=some o->b∉X.ex
 exfs:∀b∈X.ex,b∉X.fs
 funs:X.s₀.heap.FunFrames X.base X.outer
 frf:∀b∈X.fs,X.H₀ b=none
structure Inv(X:Cx)(pins:List (BQ×BZ))(σ:List (Option V))(H:Hp)(s:BP):Prop where
 ok:X.Ok
 os:s.os=X.s₀.os
 bare:AllBare s.gens
 base:Un X.fs X.ex X.H₀ H X.s₀.heap s.heap
 loc:∃m,s.heap.Ns X.env.locals m/\∀ (i:Nat) (x:Str) (v:V),X.N[i]? =some x->σ[i]? =some (some v)->Vis X.env.scope x->∃u,RelV v u/\Look X.env s.heap m x u
 cell:∀x c,X.env.cells.lookup x=some c->∃v,s.heap.IsCell c v
 free:H X.env.locals=none
 freeC:∀x c,X.env.cells.lookup x=some c->H c=none
 pin:∀p∈X.pn++pins,s.heap.get? p.1=some p.2/\H p.1=none/\p.1≠X.env.locals/\p.1∉X.fs/\∀v,p.2.data≠ .cell v
 hok:HOk X.prog X.w H s.heap
 len:σ.length=X.N.length
section
variable {X:Cx}{pins:List (BQ×BZ)}{σ:List (Option V)}{H H':Hp}{s:BP}{h':BS}
theorem Cx.Ok.nofr(ok:X.Ok){b:BQ}{o:BZ}(e:X.base.get? b=some o):b∉X.fs:=λhb=>by have:=(ok.funs.mem hb).1;rw[e] at this;cases this
theorem Inv.bs(I:Inv X pins σ H s):∀b o,X.base.get? b=some o->s.heap.get? b=some o/\H b=none:=λb o e=>⟨I.base.keep b o (I.ok.bs b o e).1 (I.ok.bs b o e).2 (I.ok.nofr e) (I.ok.noex b o e),I.base.free b o (I.ok.bs b o e).1 (I.ok.bs b o e).2 (I.ok.noex b o e)⟩
theorem Inv.bk(I:Inv X pins σ H s):∀b o,X.base.get? b=some o->s.heap.get? b=some o:=λb o e=>(I.bs b o e).1
theorem Inv.mod(I:Inv X pins σ H s):Mod X.K X.mg X.base:=I.ok.mod
theorem Inv.kIn(I:Inv X pins σ H s):X.K.In s.heap:=I.ok.mod.kin.keeps I.bk
theorem Inv.lt(I:Inv X pins σ H s):X.env.locals<s.heap.objs.size:=let ⟨_,hn,_⟩:=I.loc;hn.lt
theorem Inv.sz(I:Inv X pins σ H s):X.s₀.heap.objs.size<=s.heap.objs.size:=cO I.ok.above (cW I.lt)
theorem Inv.nofs(I:Inv X pins σ H s){a:BQ}(h:s.heap.objs.size<=a):a∉X.fs:=λhb=>by obtain⟨_,o,ho,_⟩:=I.ok.funs.mem hb;exact absurd (aY (aK ho) (cO I.sz h)) (eA _)
theorem Inv.cne(I:Inv X pins σ H s):∀x c,X.env.cells.lookup x=some c->c≠X.env.locals:=λx c e z=>by obtain⟨v,o,ho,hd⟩:=I.cell x c e;obtain⟨m,⟨o',es,ep,ho',hd',_⟩,_⟩:=I.loc;rw[z,ho'] at ho;cases ho;rw[hd'] at hd;cases hd
theorem Inv.funs(I:Inv X pins σ H s):s.heap.FunFrames X.base X.outer:=by
 have all:∀ (l:List Env),(∀b∈frs l,b∈X.fs)->X.s₀.heap.FunFrames X.base l->s.heap.FunFrames X.base l:=by
  intro l
  induction l with
  |nil=>intro _ _;trivial
  |cons env r ih=>
   intro hs hl;obtain⟨hk,⟨L,o,hf,hn,ho,hd⟩,hr⟩:=hl;have hL:L∈X.fs:=hs L (by unfold frs;rw[lW,hf];exact aH);obtain⟨sl,e⟩:=I.base.slot L o ho (I.ok.frf L hL) hL λz=>I.ok.exfs L z hL
   exact⟨hk,⟨L,_,hf,hn,e,hd⟩,ih (λb hb=>hs b (by unfold frs;rw[lW,hf];exact aI _ hb)) hr⟩
 exact all X.outer (λ_ hb=>hb) I.ok.funs
theorem Inv.stack(I:Inv X pins σ H s):s.heap.FunFrames X.base X.stack:=by
 rcases I.ok.stk with e|⟨e,hf⟩
 ·rw[e];exact I.funs
 ·rw[e];obtain⟨m,hn,_⟩:=I.loc;refine .cons (by rw[I.ok.kind];decide) hf hn ?_ I.funs;exact Heap.get?_none_of_le (cO I.ok.bsz I.ok.above)
theorem Inv.stkSub(I:Inv X pins σ H s):∀b∈frs X.stack,b∈X.env.locals::X.fs:=λb hb=>by
 rcases I.ok.stk with e|⟨e,hf⟩
 ·rw[e] at hb;exact aI _ hb
 ·rw[e] at hb;unfold frs at hb;rw[lW,hf] at hb;exact hb
theorem Inv.stkFree(I:Inv X pins σ H s):∀b∈frs X.stack,H b=none:=λb hb=>by
 rcases aQ.mp (I.stkSub b hb) with e|hb
 ·rw[e];exact I.free
 ·obtain⟨_,o,ho,_⟩:=I.ok.funs.mem hb;exact I.base.free b o ho (I.ok.frf b hb) λz=>I.ok.exfs b z hb
theorem Inv.step{g':Array GenState}{t':Nat}{d':Drawn}{ch:List BQ}(I:Inv X pins σ H s)
  (hch:∀b∈ch,(b∈X.ex\/X.s₀.heap.objs.size<=b)/\b≠X.env.locals/\(∀x c,X.env.cells.lookup x=some c->c≠b)/\∀p∈X.pn++pins,p.1≠b)
  (keep:∀b o,b≠X.env.locals->b∉X.fs->b∉ch->s.heap.get? b=some o->H b=none->h'.get? b=some o)
  (slot:∀b o,b≠X.env.locals->b∈X.fs->b∉ch->s.heap.get? b=some o->H b=none->∃sl,h'.get? b=some {o with slots:=sl}) (free:∀b o,b∉ch->s.heap.get? b=some o->H b=none->H' b=none)
  (there:∀b o,b∉ch->s.heap.get? b=some o->∃o',h'.get? b=some o')
  (tups:∀b xs,H b=some (.tup xs)->H' b=some (.tup xs)) (frzs:∀b o u,H b=some (.frz o u)->H' b=some (.frz o u)) (tbls:∀b ps,H b=some (.tbl ps)->∃more,H' b=some (.tbl (ps++more)))
  (ns:∀m,s.heap.Ns X.env.locals m->h'.Ns X.env.locals m) (hok:HOk X.prog X.w H' h') (hg:AllBare g'):
  Inv X pins σ H' {s with heap:=h',gens:=g',drawn:=d',toks:=t'}:=by
 have neL:∀b o,X.s₀.heap.get? b=some o->b≠X.env.locals:=λb o e=>bH (aY (aK e) I.ok.above)
 have neC:∀b o,X.s₀.heap.get? b=some o->b∉X.ex->b∉ch:=λb o e hx hb=>by
  rcases(hch b hb).1 with z|z
  ·exact hx z
  ·exact absurd (aY (aK e) z) (eA _)
 have cellK:∀x c,X.env.cells.lookup x=some c->∀v,s.heap.IsCell c v->h'.IsCell c v:=λx c e v ⟨o,ho,hd⟩=>by
  have nch:c∉ch:=λz=>(hch c z).2.2.1 x c e rfl
  by_cases hc:c∈X.fs
  ·obtain⟨sl,q⟩:=slot c o (I.cne x c e) hc nch ho (I.freeC x c e);exact⟨_,q,hd⟩
  ·exact⟨o,keep c o (I.cne x c e) hc nch ho (I.freeC x c e),hd⟩
 refine⟨I.ok,I.os,hg,⟨λb o e n hb hx=> ?_,λb o e n hb hx=> ?_,λb o e n hx=> ?_,λb o e hx=> ?_,λb xs e=>tups b xs (I.base.tups b xs e),λb o xs e=>frzs b o xs (I.base.frzs b o xs e),λb ps e=> ?_⟩, ?_,λx c e=> ?_, ?_,λx c e=> ?_,λp hp=> ?_,hok,I.len⟩
 ·exact keep b o (neL b o e) hb (neC b o e hx) (I.base.keep b o e n hb hx) (I.base.free b o e n hx)
 ·obtain⟨sl,e1⟩:=I.base.slot b o e n hb hx;obtain⟨sl',e2⟩:=slot b _ (neL b o e) hb (neC b o e hx) e1 (I.base.free b o e n hx);exact⟨sl',e2⟩
 ·obtain⟨o',e1⟩:=I.base.there b o e hx;exact free b o' (neC b o e hx) e1 (I.base.free b o e n hx)
 ·obtain⟨o',e1⟩:=I.base.there b o e hx;exact there b o' (neC b o e hx) e1
 ·obtain⟨m1,e1⟩:=I.base.tbls b ps e;obtain⟨m2,e2⟩:=tbls b _ e1;exact⟨m1++m2,by rw[e2,Array.append_assoc]⟩
 ·obtain⟨m,hn,hl⟩:=I.loc;refine⟨m,ns m hn,λi x v e1 e2 e3=> ?_⟩;obtain⟨u,r,l⟩:=hl i x v e1 e2 e3;refine⟨u,r, ?_⟩
  rcases l with l|⟨k,c,e,z⟩
  ·exact .inl l
  ·exact .inr ⟨k,c,e,cellK x c e _ z⟩
 ·obtain⟨v,z⟩:=I.cell x c e;exact⟨v,cellK x c e v z⟩
 ·obtain⟨m,⟨o,_,_,ho,_⟩,_⟩:=I.loc;exact free _ o (λz=>(hch _ z).2.1 rfl) ho I.free
 ·obtain⟨v,o,ho,hd⟩:=I.cell x c e;exact free c o (λz=>(hch c z).2.2.1 x c e rfl) ho (I.freeC x c e)
 ·obtain⟨e,n,ne,nf,d⟩:=I.pin p hp;have nch:p.1∉ch:=λz=>(hch p.1 z).2.2.2 p hp rfl
  exact⟨keep p.1 p.2 ne nf nch e n,free p.1 p.2 nch e n,ne,nf,d⟩
theorem Inv.un{t':Nat}(I:Inv X pins σ H s)(u:Un X.fs [] H H' s.heap h')(hok:HOk X.prog X.w H' h'):Inv X pins σ H' {s with heap:=h',toks:=t'}:=by
 obtain⟨m,⟨o,es,ep,ho,r⟩,_⟩:=id I.loc;obtain⟨sl,hL⟩:=u.any ho I.free (by simp)
 exact I.step (g':=s.gens) (d':=s.drawn) (ch:=[]) (fun _ z=>nomatch z) (fun b o _ hb _ e n=>u.keep b o e n hb (by simp)) (fun b o _ hb _ e n=>u.slot b o e n hb (by simp)) (fun b o _ e n=>u.free b o e n (by simp)) (fun b o _ e=>u.there b o e (by simp)) u.tups u.frzs u.tbls (fun m' hm=>by
  obtain⟨o',es',ep',ho',r'⟩:=hm;rw[ho] at ho';cases ho'
  exact⟨_,es',ep',hL,r'⟩) hok I.bare
theorem Inv.call{g':Array GenState}{t':Nat}{d':Drawn}{ch:List BQ}(I:Inv X pins σ H s)(u:Un (frs X.stack) ch H H' s.heap h')(hok:HOk X.prog X.w H' h')(hg:AllBare g')
  (hch:∀b∈ch,(b∈X.ex\/X.s₀.heap.objs.size<=b)/\b≠X.env.locals/\(∀x c,X.env.cells.lookup x=some c->c≠b)/\∀p∈X.pn++pins,p.1≠b):
  Inv X pins σ H' {s with heap:=h',gens:=g',drawn:=d',toks:=t'}:=by
 obtain⟨m,⟨o,es,ep,ho,r⟩,_⟩:=id I.loc;obtain⟨sl,hL⟩:=u.any ho I.free λz=>(hch _ z).2.1 rfl
 exact I.step (ch:=ch) hch (fun b o hL hb hc e n=>u.keep b o e n (fun z=>(aQ.mp (I.stkSub b z)).elim hL hb) hc) (fun b o _ _ hc e n=>u.any e n hc) (fun b o hc e n=>u.free b o e n hc) (fun b o hc e=>u.there b o e hc) u.tups u.frzs u.tbls (fun m' hm=>by
  obtain⟨o',es',ep',ho',r'⟩:=hm;rw[ho] at ho';cases ho'
  exact⟨_,es',ep',hL,r'⟩) hok hg
theorem Inv.turned{t':Nat}{it:BQ}(I:Inv X pins σ H s)(k:∀b o,b≠it->s.heap.get? b=some o->h'.get? b=some o)(hn:H it=none)(hL:it≠X.env.locals)
  (h1:it∈X.ex\/X.s₀.heap.objs.size<=it) (h2:∀x c,X.env.cells.lookup x=some c->c≠it) (h3:∀p∈X.pn++pins,p.1≠it):Inv X pins σ H {s with heap:=h',toks:=t'}:=by
 have nit:∀b u,H b=some u->b≠it:=λb u e z=>by rw[z,hn] at e;cases e
 refine I.step (g':=s.gens) (d':=s.drawn) (ch:=[it]) (λb hb=> ?_) (λb o _ _ hc e _=>k b o (λz=>hc (by simp[z])) e) (λb o _ _ hc e _=>⟨o.slots,k b o (λz=>hc (by simp[z])) e⟩) (λ_ _ _ _ n=>n)
  (λb o hc e=>⟨o,k b o (λz=>hc (by simp[z])) e⟩) (λ_ _ e=>e) (λ_ _ _ e=>e) (λb ps e=>⟨#[],by rw[e];simp⟩) (λm hm=> ?_) (λb u e=> ?_) I.bare
 ·have e:b=it:=by simpa using hb
  subst e;exact⟨h1,hL,h2,h3⟩
 ·obtain⟨o,es,ep,ho,r⟩:=hm;exact⟨o,es,ep,k _ o (Ne.symm hL) ho,r⟩
 ·refine(I.hok b u e).stay (λc v hc q=>k c v ?_ q) (λ_ q=>q) λ_ _ q=>q
  rcases hc with z|z
  ·rw[z];exact nit b u e
  ·exact nit c _ z
theorem Inv.tok(I:Inv X pins σ H s)(t:Nat):Inv X pins σ H {s with toks:=t}:=I.un (h':=s.heap) (t':=t) Un.refl I.hok
theorem Inv.kept{t':Nat}(I:Inv X pins σ H s)(k:∀b u,s.heap.get? b=some u->h'.get? b=some u):Inv X pins σ H {s with heap:=h',toks:=t'}:=I.un (Un.kept k) (I.hok.kept k)
theorem Inv.laid{a:BQ}{o:HO}{t':Nat}(I:Inv X pins σ H s)(k:∀b u,s.heap.get? b=some u->h'.get? b=some u)(hp:s.heap.objs.size<=a)(new:ObjOk X.prog X.w (upd H a o) h' a o):
  Inv X pins σ (upd H a o) {s with heap:=h',toks:=t'}:=I.un (Un.laid k hp (I.hok.fresh hp)) (I.hok.laid k hp new)
theorem Inv.write{x e:BQ}{o:HO}{t':Nat}(I:Inv X pins σ H s)(mu:Mut (H x))(he:e=x\/H e=some (.own x))(k:∀b u,b≠e->s.heap.get? b=some u->h'.get? b=some u)(heo:∃u,h'.get? e=some u)
  (new:ObjOk X.prog X.w (upd H x o) h' x o):Inv X pins σ (upd H x o) {s with heap:=h',toks:=t'}:=I.un (Un.write mu he k heo) (I.hok.write mu he k heo new)
theorem Inv.pins_of{pins':List (BQ×BZ)}(I:Inv X pins σ H s)(h:∀p∈pins',s.heap.get? p.1=some p.2/\H p.1=none/\p.1≠X.env.locals/\p.1∉X.fs/\∀v,p.2.data≠ .cell v):Inv X pins' σ H s:=
 ⟨I.ok,I.os,I.bare,I.base,I.loc,I.cell,I.free,I.freeC,λp hp=>(bC.mp hp).elim (λz=>I.pin p (bZ _ z)) (h p),I.hok,I.len⟩
theorem aBD{N:List Str}(hN:N.Nodup){i j:Nat}{x:Str}(a:N[i]? =some x)(b:N[j]? =some x):i=j:=by obtain⟨h1,e1⟩:=aN.mp a;obtain⟨h2,e2⟩:=aN.mp b;exact(kZ hN).mp (e1.trans e2.symm)
theorem aEp{M:Model}{A:BR}{E:BO->BP->Prop}{i:Nat}{x:Str}{v:V}{u:BO}{Q:Unit->BP->Prop}(I:Inv X pins σ H s)(hN:X.N.Nodup)(hi:X.N[i]? =some x)(hx:Loc X.env.scope x)(r:RelV v u)
  (h:∀s',Inv X pins (σ.set i (some v)) H s'->(∃a,Heap.SameBut a s.heap s'.heap/\(a=X.env.locals\/X.env.cells.lookup x=some a))->Q () s') (hf:X.fn x=true\/X.env.scope.names.lookup x=some .local:=by first|exact .inl rfl|exact .inr rfl|assumption):AH M A (storeName X.env x u) Q E s:=by
 obtain⟨m,hn,hl⟩:=id I.loc;have hcls:(X.env.scope.kind==.class||(X.env.scope.kind==.module&&X.env.locals !=X.env.globals))=false:=by rw[I.ok.kind];rfl
 have hiσ:i<σ.length:=by rw[I.len];exact(aN.mp hi).1
 have cne:=I.cne
 have tracked:∀ {a:BQ}{h':BS},(∃o,s.heap.get? a=some o/\H a=none)->Heap.SameBut a s.heap h'->HOk X.prog X.w H h':=λ{a h'} ha hs b ob e=>by
  obtain⟨_,_,hfree⟩:=ha;refine(I.hok b ob e).stay (λc w' hc q=>(hs.2 c ?_).trans q) (λ_ q=>q) λ_ _ q=>q
  rintro rfl
  rcases hc with rfl|hc
  ·rw[hfree] at e;cases e
  ·rw[hfree] at hc;cases hc
 rcases hx with hk|hk
 ·refine wpAny_storeName_local hk hn (λh' hn' hs=> ?_) hcls;obtain⟨oL,_,_,hoL,_⟩:=id hn;refine h _ ⟨I.ok,I.os,I.bare,⟨λb o e n hb hx=> ?_,λb o e n hb hx=> ?_,I.base.free,λb o e hx=> ?_,I.base.tups,I.base.frzs,I.base.tbls⟩,⟨_,hn',λj y v' e1 e2 e3=> ?_⟩,λy c e=> ?_,I.free,I.freeC,λp hp=> ?_,tracked ⟨oL,hoL,I.free⟩ hs,by simpa using I.len⟩ ⟨_,hs,.inl rfl⟩
  ·exact(hs.2 b (bH (aY (aK e) I.ok.above))).trans (I.base.keep b o e n hb hx)
  ·obtain⟨sl,e1⟩:=I.base.slot b o e n hb hx;exact⟨sl,(hs.2 b (bH (aY (aK e) I.ok.above))).trans e1⟩
  ·obtain⟨o',e1⟩:=I.base.there b o e hx;exact⟨o',(hs.2 b (bH (aY (aK e) I.ok.above))).trans e1⟩
  ·by_cases hj:j=i
   ·subst hj;rw[hi] at e1;cases e1;rw[oQ hiσ] at e2;cases e2;exact⟨u,r,.inl ⟨hk,by simp⟩⟩
   ·rw[lE (Ne.symm hj)] at e2;obtain⟨u',r',q⟩:=hl j y v' e1 e2 e3;refine⟨u',r', ?_⟩
    rcases q with⟨k,e⟩|⟨k,c,e,z⟩
    ·refine .inl ⟨k, ?_⟩;have:y≠x:=λe=>hj (aBD hN e1 (e▸hi))
     simp[this,e]
    ·exact .inr ⟨k,c,e,z.sameBut hs (cne y c e)⟩
  ·obtain⟨w',z⟩:=I.cell y c e;exact⟨w',z.sameBut hs (cne y c e)⟩
  ·obtain⟨e,n,ne,nf,d⟩:=I.pin p hp;exact⟨(hs.2 p.1 ne).trans e,n,ne,nf,d⟩
 ·have hfn:X.fn x=true:=by
   rcases hf with z|z
   ·exact z
   ·rw[z] at hk;cases hk
  obtain⟨c,hc⟩:=I.ok.has x (.inl hk);obtain⟨w',z⟩:=I.cell x c hc;refine wpAny_storeName_cell I.ok.kind hk hc z (λh' hc' hs=> ?_);obtain⟨oc,hoc,hocd⟩:=id z;refine h {s with heap:=h'} ⟨I.ok,I.os,I.bare,⟨λb o e n hb hx=> ?_,λb o e n hb hx=> ?_,I.base.free,λb o e hx=> ?_,I.base.tups,I.base.frzs,I.base.tbls⟩,⟨m,hn.sameBut hs (Ne.symm (cne x c hc)),λj y v' e1 e2 e3=> ?_⟩,λy c' e=> ?_,I.free,I.freeC,λp hp=> ?_,tracked ⟨oc,hoc,I.freeC x c hc⟩ hs,by simpa using I.len⟩ ⟨c,hs,.inr hc⟩
  ·exact(hs.2 b (bH (aY (aK e) (I.ok.cab x c hfn hc)))).trans (I.base.keep b o e n hb hx)
  ·obtain⟨sl,e1⟩:=I.base.slot b o e n hb hx;exact⟨sl,(hs.2 b (bH (aY (aK e) (I.ok.cab x c hfn hc)))).trans e1⟩
  ·obtain⟨o',e1⟩:=I.base.there b o e hx;exact⟨o',(hs.2 b (bH (aY (aK e) (I.ok.cab x c hfn hc)))).trans e1⟩
  ·by_cases hj:j=i
   ·subst hj;rw[hi] at e1;cases e1;rw[oQ hiσ] at e2;cases e2;exact⟨u,r,.inr ⟨.inl hk,c,hc,hc'⟩⟩
   ·rw[lE (Ne.symm hj)] at e2;obtain⟨u',r',q⟩:=hl j y v' e1 e2 e3;refine⟨u',r', ?_⟩
    rcases q with q|⟨k,c',e,z'⟩
    ·exact .inl q
    ·refine .inr ⟨k,c',e,z'.sameBut hs ?_⟩;rintro rfl;exact hj (aBD hN e1 (I.ok.inj _ _ _ e hc▸hi))
  ·by_cases hcc:c'=c
   ·subst hcc;exact⟨_,hc'⟩
   ·obtain⟨w2,z2⟩:=I.cell y c' e;exact⟨w2,z2.sameBut hs hcc⟩
  ·obtain⟨e,n,ne,nf,d⟩:=I.pin p hp;refine⟨(hs.2 p.1 ?_).trans e,n,ne,nf,d⟩;intro q;rw[q,hoc] at e;have q':oc=p.2:=cC.inj e;exact d w' (by rw[<-q'];exact hocd)
theorem aBb{M:Model}{A:BR}{E:BO->BP->Prop}{i:Nat}{x:Str}{v:V}{u:BO}{Q:Unit->BP->Prop}(I:Inv X pins σ H s)(hN:X.N.Nodup)(hi:X.N[i]? =some x)(hx:Loc X.env.scope x)(r:RelV v u)
  (h:∀s',Inv X pins (σ.set i (some v)) H s'->Q () s') (hf:X.fn x=true\/X.env.scope.names.lookup x=some .local:=by first|exact .inl rfl|exact .inr rfl|assumption):AH M A (storeName X.env x u) Q E s:=
 aEp I hN hi hx r (λs' I' _=>h s' I') hf
theorem Inv.call'{s':BP}{ch:List BQ}(I:Inv X pins σ H s)(ho:s'.os=s.os)(u:Un (frs X.stack) ch H H' s.heap s'.heap)(hok:HOk X.prog X.w H' s'.heap)(hg:AllBare s'.gens)
  (hch:∀b∈ch,(b∈X.ex\/X.s₀.heap.objs.size<=b)/\b≠X.env.locals/\(∀x c,X.env.cells.lookup x=some c->c≠b)/\∀p∈X.pn++pins,p.1≠b):Inv X pins σ H' s':=by
 obtain⟨h',g',d',t',o'⟩:=s';have e:o'=s.os:=ho;subst e;exact I.call (g':=g') (t':=t') (d':=d') u hok hg hch
end
noncomputable abbrev XK:=BO->Option BQ->Hp->Prop
noncomputable abbrev St:=List (Option V)
noncomputable abbrev VK:=V->Hp->Prop
noncomputable abbrev TE:=St->Hp->VK->Prop
noncomputable abbrev TT:=St->Hp->(Bool->Hp->Prop)->Prop
noncomputable abbrev TA:=St->Hp->(List V->Hp->Prop)->Prop
structure uC where
 nx:St->Hp->Prop
 rt:VK
 bk:St->Hp->Prop:=λ_ _=>False
 ct:St->Hp->Prop:=λ_ _=>False
noncomputable abbrev TS:=uC->St->Hp->Prop
def EP(X:Cx)(pins:List (BQ×BZ))(σ:St)(Q:VK)(u:BO)(s':BP):Prop:=∃v H',Inv X pins σ H' s'/\RelV v u/\Q v H'
def TP(X:Cx)(pins:List (BQ×BZ))(σ:St)(Q:Bool->Hp->Prop)(b:Bool)(s':BP):Prop:=∃H',Inv X pins σ H' s'/\Q b H'
def AP(X:Cx)(pins:List (BQ×BZ))(σ:St)(Q:List V->Hp->Prop)(us:List BO)(s':BP):Prop:=∃vs H',Inv X pins σ H' s'/\Vals vs us/\Q vs H'
def SP(X:Cx)(pins:List (BQ×BZ))(D:uC)(f:Flow)(s':BP):Prop:=
 match f with
 |.next=>∃σ' H',Inv X pins σ' H' s'/\D.nx σ' H'
 |.brk=>∃σ' H',Inv X pins σ' H' s'/\D.bk σ' H'
 |.cont=>∃σ' H',Inv X pins σ' H' s'/\D.ct σ' H'
 |.ret u=>∃v σ' H',Inv X pins σ' H' s'/\RelV v u/\D.rt v H'
def PE(X:Cx)(e:Expr)(t:TE):Prop:=
 ∀ (pins:List (BQ×BZ)) (s:BP) (σ:St) (H:Hp) (Q:VK),Inv X pins σ H s->t σ H Q->AH (AE X.prog X.w) X.A (eval e X.env) (EP X pins σ Q) X.xe s
def PT(X:Cx)(e:Expr)(t:TT):Prop:=
 ∀ (pins:List (BQ×BZ)) (s:BP) (σ:St) (H:Hp) (Q:Bool->Hp->Prop),Inv X pins σ H s->t σ H Q->AH (AE X.prog X.w) X.A (isTrue e X.env (eval e X.env)) (TP X pins σ Q) X.xe s
def PW(X:Cx)(e:Expr)(t:TT):Prop:=
 ∀ (whole:Sem BO) (pins:List (BQ×BZ)) (s:BP) (σ:St) (H:Hp) (Q:Bool->Hp->Prop),Inv X pins σ H s->t σ H Q->AH (AE X.prog X.w) X.A (isTrue e X.env whole) (TP X pins σ Q) X.xe s
theorem PW.pt{X:Cx}{e:Expr}{t:TT}(h:PW X e t):PT X e t:=h _
def PA(X:Cx)(es:List Expr)(t:TA):Prop:=
 ∀ (pos:Pos) (pins:List (BQ×BZ)) (s:BP) (σ:St) (H:Hp) (Q:List V->Hp->Prop),Inv X pins σ H s->t σ H Q->AH (AE X.prog X.w) X.A (spliced (Aw pos (AD es X.env))) (AP X pins σ Q) X.xe s
def PS(X:Cx)(st:BU)(t:TS):Prop:=
 ∀ (pins:List (BQ×BZ)) (s:BP) (σ:St) (H:Hp) (D:uC),Inv X pins σ H s->t D σ H->AH (AE X.prog X.w) X.A (exec st X.env) (SP X pins D) X.xe s
def PSs(X:Cx)(st:List BU)(t:TS):Prop:=
 ∀ (pins:List (BQ×BZ)) (s:BP) (σ:St) (H:Hp) (D:uC),Inv X pins σ H s->t D σ H->AH (AE X.prog X.w) X.A (execs st X.env) (SP X pins D) X.xe s
theorem thn{α:Type}{t:Sem α}{Q Q':α->BP->Prop}{M:Model}{A:BR}{E:BO->BP->Prop}{s:BP}(h:AH M A t Q E s)(hQ:∀a s,Q a s->Q' a s):AH M A t Q' E s:=Ah h hQ λ_ _ x=>x
section
variable {X:Cx}
noncomputable def lH(i:Nat):TE:=λσ H Q=>∃v,σ[i]? =some (some v)/\Q v H
noncomputable def tC(v:V):TE:=λ_ H Q=>Q v H
theorem aME{i:Nat}{x:Str}{pos:Pos}(hN:X.N[i]? =some x)(hv:Vis X.env.scope x)(hd:(x==("__debug__":Str))=false:=by decide)(hcd:(x==("__classdict__":Str))=false:=by decide):PE X (.Name x pos) (lH i):=by
 intro pins s σ H Q I h;obtain⟨v,e,h⟩:=h;obtain⟨m,hn,hl⟩:=I.loc;obtain⟨u,r,l⟩:=hl i x v hN e hv;have fin:EP X pins σ Q u s:=⟨v,H,I,r,h⟩
 rcases l with⟨hk,hm⟩|⟨hk,c,hc,hcell⟩
 ·exact wpAny_Name (wpAny_loadName_local I.ok.kind hk hn hm fin) hd
 ·rcases hk with hk|hk
  ·exact wpAny_Name (wpAny_loadName_cell I.ok.kind hk hc hcell fin) hd
  ·exact wpAny_Name (wpAny_loadName_free I.ok.kind hk hc hcell fin hcd) hd
theorem pe_int{i j pos}:PE X (.Constant (.int i) j pos) (tC (.int i)):=λ_ _ _ H _ I h=>wpAny_Constant_int ⟨.int i,H,I.tok _,⟨_,rfl⟩,h⟩
theorem pe_bl{b j pos}:PE X (.Constant (.bool b) j pos) (tC (.bl b)):=λ_ _ _ H _ I h=>Constant_bool ⟨.bl b,H,I,rfl,h⟩
theorem pe_non{j pos}:PE X (.Constant .none j pos) (tC .non):=λ_ _ _ H _ I h=>Constant_none ⟨.non,H,I,rfl,h⟩
theorem pe_str{x j pos}:PE X (.Constant (.str x) j pos) (tC (.str x)):=λ_ _ _ H _ I h=>Calls.Constant_str ⟨.str x,H,I.tok _,⟨_,rfl⟩,h⟩
def Gl(X:Cx)(x:Str):Prop:=X.env.kindOf x=some .globalImplicit
theorem aDx{E:BO->BP->Prop}{pins:List (BQ×BZ)}{s:BP}{σ:St}{H:Hp}{x:Str}{u:BO}{pos:Pos}{Q:BO->BP->Prop}(I:Inv X pins σ H s)(hg:Gl X x)(hm:X.mg x=some u)(h:Q u s)
  (hd:(x==("__debug__":Str))=false:=by decide):AH (AE X.prog X.w) X.A (eval (.Name x pos) X.env) Q E s:=
 Calls.Name_function_global I.ok.kind hg (Calls.loadGlobal_global (by rw[I.ok.glob];exact I.mod.glob.keeps I.bk) hm h) hd
theorem lU{E:BO->BP->Prop}{pins:List (BQ×BZ)}{s:BP}{σ:St}{H:Hp}{x:Str}{u:BO}{pos:Pos}{Q:BO->BP->Prop}(I:Inv X pins σ H s)(hg:Gl X x)(hm:X.mg x=none)(hv:Aq x=some u)(h:Q u s)
  (hn:x≠"__name__":=by decide) (hd:(x==("__debug__":Str))=false:=by decide):AH (AE X.prog X.w) X.A (eval (.Name x pos) X.env) Q E s:=by
 obtain⟨mb,h1,h2⟩:=I.mod.blt;exact Calls.Name_function_global I.ok.kind hg (Calls.loadGlobal_builtin (by rw[I.ok.glob];exact I.mod.glob.keeps I.bk) hm (by rw[I.ok.blt];exact h1.keeps I.bk) ((h2 x hn).trans hv) h) hd
theorem aDF{x:Str}{v:V}{u:BO}{pos:Pos}(hg:Gl X x)(hm:X.mg x=some u)(r:RelV v u)(hd:(x==("__debug__":Str))=false:=by decide):PE X (.Name x pos) (tC v):=
 λ_ _ _ H _ I h=>aDx I hg hm ⟨v,H,I,r,h⟩ hd
theorem aJL{x:Str}{v:V}{u:BO}{pos:Pos}(hg:Gl X x)(hm:X.mg x=none)(hv:Aq x=some u)(r:RelV v u)(hn:x≠"__name__":=by decide)(hd:(x==("__debug__":Str))=false:=by decide):PE X (.Name x pos) (tC v):=
 λ_ _ _ H _ I h=>lU I hg hm hv ⟨v,H,I,r,h⟩ hn hd
def t2I(ta tb:TE)(k:Int->Int->Hp->Prop):St->Hp->Prop:=λσ H=>ta σ H λx H1=>tb σ H1 λy H2=>∃i j,x=.int i/\y=.int j/\k i j H2
variable {a b:Expr}{ta tb:TE}{pos:Pos}
noncomputable def aKD(p:Int->Int->Bool)(ta tb:TE):TE:=λσ H Q=>t2I ta tb (λi j H2=>Q (.bl (p i j)) H2) σ H
noncomputable abbrev tLt:TE->TE->TE:=aKD λi j=>decide (i<j)
noncomputable abbrev tLe:TE->TE->TE:=aKD λi j=>decide (i<=j)
noncomputable abbrev tGt:TE->TE->TE:=aKD λi j=>decide (j<i)
noncomputable abbrev tGe:TE->TE->TE:=aKD λi j=>decide (j<=i)
noncomputable abbrev tEqI:TE->TE->TE:=aKD λi j=>decide (i=j)
noncomputable abbrev tNeI:TE->TE->TE:=aKD λi j=> !decide (i=j)
noncomputable def tB(t:TE):TT:=λσ H Q=>t σ H λx H1=>∃c,x=.bl c/\Q c H1
theorem aNc{e:Expr}{t:TE}(h:PE X e t)(he:∀whole,isTrue e X.env whole=(do let v <-whole;standAt e.pos;holding [v] (truthy v)):=by intro _;rfl):PT X e (tB t):=by intro pins s σ H Q I hw;refine isTrue_plain (thn (h pins s σ H _ I hw) λv s1 ⟨x,H1,I1,r1,q1⟩=> ?_) (he _);obtain⟨d,rfl,q⟩:=q1;cases r1;exact wpAny_truthy_bool ⟨H1,I1,q⟩
variable {tA tB':TT}{rest:List Expr}
noncomputable def tAnd(t u:TT):TT:=λσ H Q=>t σ H λc H1=>if c=true then u σ H1 Q else Q false H1
noncomputable def tOr(t u:TT):TT:=λσ H Q=>t σ H λc H1=>if c=true then Q true H1 else u σ H1 Q
noncomputable def tNot(t:TT):TT:=λσ H Q=>t σ H λc H1=>Q (!c) H1
theorem aJe(ha:PT X a tA):PW X (.BoolOp .And [a] pos) tA:=by
 intro wh pins s σ H Q I h;refine isTrue_and (thn (ha pins s σ H Q I h) λc s1 e=> ?_);cases c with
 |true=>exact isTrue_and_nil e
 |false=>exact e
theorem aMs(ha:PT X a tA):PW X (.BoolOp .Or [a] pos) tA:=by
 intro wh pins s σ H Q I h;refine isTrue_or (thn (ha pins s σ H Q I h) λc s1 e=> ?_);cases c with
 |false=>exact isTrue_or_nil e
 |true=>exact e
theorem aMf(ha:PT X a tA)(hb:PW X (.BoolOp .And (b::rest) pos) tB'):PW X (.BoolOp .And (a::b::rest) pos) (tAnd tA tB'):=by
 intro wh pins s σ H Q I h;refine isTrue_and (thn (ha pins s σ H _ I h) λc s1 ⟨H1,I1,q1⟩=> ?_);cases c with
 |true=>exact hb wh pins s1 σ H1 Q I1 q1
 |false=>exact⟨H1,I1,q1⟩
theorem aOC(ha:PT X a tA)(hb:PW X (.BoolOp .Or (b::rest) pos) tB'):PW X (.BoolOp .Or (a::b::rest) pos) (tOr tA tB'):=by
 intro wh pins s σ H Q I h;refine isTrue_or (thn (ha pins s σ H _ I h) λc s1 ⟨H1,I1,q1⟩=> ?_);cases c with
 |true=>exact⟨H1,I1,q1⟩
 |false=>exact hb wh pins s1 σ H1 Q I1 q1
theorem aMm(ha:PT X a tA):PT X (.UnaryOp .Not a pos) (tNot tA):=by intro pins s σ H Q I h;exact isTrue_not (ha pins s σ H (λc H1=>Q (!c) H1) I h)
noncomputable def aOB(ta tb:TE):TE:=λσ H Q=>ta σ H λx H1=>∃c,x=.bl c/\if c=true then tb σ H1 Q else Q (.bl false) H1
theorem aNd{op}{t:TE}(h:PE X a t):PE X (.BoolOp op [a] pos) t:=λpins s σ H Q I hw=>BoolOp_one (h pins s σ H Q I hw)
theorem aMx(ha:PE X a ta)(hb:PE X (.BoolOp .And (b::rest) pos) tb):PE X (.BoolOp .And (a::b::rest) pos) (aOB ta tb):=by
 intro pins s σ H Q I h;refine BoolOp_and (thn (ha pins s σ H _ I h) λv s1 ⟨x,H1,I1,r1,q1⟩=> ?_);obtain⟨c,rfl,q1⟩:=q1;cases r1;refine wpAny_truthy_bool ?_;cases c with
 |true=>exact hb pins s1 σ H1 Q I1 q1
 |false=>exact⟨.bl false,H1,I1,rfl,q1⟩
end
def SqL(K:aA)(H:Hp)(a:BQ)(xs:List V):Prop:=
 Rd H a (.lst xs)\/
  ∃ (o:BZ) (its:Array BO) (n:Nat),K.lookup a=some o/\o.cls=.type "list"/\o.dict=none/\o.data=.seq its n/\its.size<=AM/\Vals xs its.toList
def SqT(K:aA)(H:Hp)(a:BQ)(xs:List V):Prop:=
 Rd H a (.tup xs)\/
  ∃ (o:BZ) (its:Array BO) (n:Nat),K.lookup a=some o/\o.cls=.type "tuple"/\o.data=.seq its n/\its.size<=AM/\Vals xs its.toList
noncomputable def absV:BO->Option V
 |.none=>some .non
 |.bool b=>some (.bl b)
 |.int i _=>some (.int i)
 |.str x _=>some (.str x)
 |.bytes b _=>some (.byt b)
 |.float b _=>some (.flt b)
 |.ref a=>some (.ref a)
 |.type n=>some (.ty n)
 |_=>none
theorem RelV.abs{x:V}{u:BO}(r:RelV x u):absV u=some x:=by
 cases x with
 |non=>cases r;rfl
 |bl _=>cases r;rfl
 |int _=>obtain⟨t,rfl⟩:=r;rfl
 |str _=>obtain⟨t,rfl⟩:=r;rfl
 |byt _=>obtain⟨t,rfl⟩:=r;rfl
 |flt _=>obtain⟨t,rfl⟩:=r;rfl
 |ref _=>cases r;rfl
 |ty _=>cases r;rfl
theorem RelV.inj{x y:V}{u:BO}(r:RelV x u)(q:RelV y u):x=y:=cC.inj (r.abs.symm.trans q.abs)
theorem Vals.inj:∀ {xs ys:List V}{us:List BO},Vals xs us->Vals ys us->xs=ys
 |_,_,_,.nil,.nil=>rfl
 |_,_,_,.cons r t,.cons r' t'=>by rw[r.inj r',Vals.inj t t']
section
variable {X:Cx}{pins:List (BQ×BZ)}{σ:St}{H:Hp}{s:BP}{a:BQ}{xs ys:List V}
theorem SqL.of{K:aA}(h:H a=some (.lst xs)):SqL K H a xs:=.inl (.inl h)
theorem SqT.of{K:aA}(h:H a=some (.tup xs)):SqT K H a xs:=.inl (.inl h)
theorem Inv.list(I:Inv X pins σ H s)(h:SqL X.K H a xs):∃its:List BO,Vals xs its/\PlainL s.heap a its.toArray/\xs.length<=AM:=by
 rcases h with h|⟨o,its,n,hk,hc,hd,hs,hz,r⟩
 ·obtain⟨z,its,n,r,e⟩:=h.ok I.hok;exact⟨its,r,⟨_,n,e,rfl,rfl,rfl⟩,z⟩
 ·refine⟨its.toList,r,⟨o,n,I.kIn a o hk,hc,hd,by simpa using hs⟩, ?_⟩;have e:=r.length;simp only[cR] at e;omega
theorem Inv.tuple(I:Inv X pins σ H s)(h:SqT X.K H a xs):∃its:List BO,Vals xs its/\IsTup s.heap a its.toArray/\xs.length<=AM:=by
 rcases h with h|⟨o,its,n,hk,hc,hs,hz,r⟩
 ·obtain⟨z,its,r,p⟩:=h.ok I.hok;exact⟨its,r,p.tup,z⟩
 ·refine⟨its.toList,r,⟨o,I.kIn a o hk,hc,n,by simpa using hs⟩, ?_⟩;have e:=r.length;simp only[cR] at e;omega
theorem Inv.list_inj(I:Inv X pins σ H s)(h:SqL X.K H a xs)(h':SqL X.K H a ys):xs=ys:=by
 obtain⟨its,r,⟨o,n,e,_,_,d⟩,_⟩:=I.list h;obtain⟨its',r',⟨o',n',e',_,_,d'⟩,_⟩:=I.list h';rw[e] at e';cases e';rw[d] at d';injection d' with d1 _
 have:its=its':=by simpa using congrArg aNs d1
 subst this;exact r.inj r'
theorem Inv.tuple_inj(I:Inv X pins σ H s)(h:SqT X.K H a xs)(h':SqT X.K H a ys):xs=ys:=by
 obtain⟨its,r,⟨o,e,_,n,d⟩,_⟩:=I.tuple h;obtain⟨its',r',⟨o',e',_,n',d'⟩,_⟩:=I.tuple h';rw[e] at e';cases e';rw[d] at d';injection d' with d1 _
 have:its=its':=by simpa using congrArg aNs d1
 subst this;exact r.inj r'
end
noncomputable abbrev Cx.wish(X:Cx)(E:BO->BP->Prop):Cx:={X with xe:=E}
noncomputable abbrev Cx.nox(X:Cx):Cx:=X.wish λ_ _=>False
theorem Cx.Ok.wish{X:Cx}(ok:X.Ok)(E:BO->BP->Prop):(X.wish E).Ok:=
 ⟨ok.mod,ok.kind,ok.glob,ok.blt,ok.above,ok.inj,ok.has,ok.cab,ok.hd,ok.frames,ok.stk,ok.exf,ok.bs,ok.bsz,ok.noex,ok.exfs,ok.funs,ok.frf⟩
theorem Cx.Ok.unwish{X:Cx}{E:BO->BP->Prop}(ok:(X.wish E).Ok):X.Ok:=
 ⟨ok.mod,ok.kind,ok.glob,ok.blt,ok.above,ok.inj,ok.has,ok.cab,ok.hd,ok.frames,ok.stk,ok.exf,ok.bs,ok.bsz,ok.noex,ok.exfs,ok.funs,ok.frf⟩
section
variable {X:Cx}{pins:List (BQ×BZ)}{σ:St}{H:Hp}{s:BP}{E:BO->BP->Prop}
theorem Inv.wish(I:Inv X pins σ H s)(E:BO->BP->Prop):Inv (X.wish E) pins σ H s:=⟨I.ok.wish E,I.os,I.bare,I.base,I.loc,I.cell,I.free,I.freeC,I.pin,I.hok,I.len⟩
theorem Inv.unwish(I:Inv (X.wish E) pins σ H s):Inv X pins σ H s:=⟨I.ok.unwish,I.os,I.bare,I.base,I.loc,I.cell,I.free,I.freeC,I.pin,I.hok,I.len⟩
theorem SP.unwish{D:uC}{f:Flow}{s':BP}(h:SP (X.wish E) pins D f s'):SP X pins D f s':=by
 cases f with
 |next=>obtain⟨σ',H',I,q⟩:=h;exact⟨σ',H',I.unwish,q⟩
 |brk=>obtain⟨σ',H',I,q⟩:=h;exact⟨σ',H',I.unwish,q⟩
 |cont=>obtain⟨σ',H',I,q⟩:=h;exact⟨σ',H',I.unwish,q⟩
 |ret u=>obtain⟨v,σ',H',I,r,q⟩:=h;exact⟨v,σ',H',I.unwish,r,q⟩
theorem PSs.nox{st:List BU}{t:TS}(h:PSs X.nox st t):PSs X st t:=λpins s σ H D I hw=>Ah (h pins s σ H D (I.wish _) hw) (λ_ _ q=>q.unwish) λ_ _ z=>False.elim z
end
section
variable {X:Cx}{st:BU}{rest:List BU}{t u:TS}{e:Expr}{te:TE}{pos:Pos}
noncomputable def aOl:TS:=λD σ H=>D.nx σ H
noncomputable def tSeq(t u:TS):TS:=λD σ H=>t {D with nx:=u D} σ H
theorem pss_nil:PSs X [] aOl:=λ_ _ σ H _ I h=>wpAny_execs_nil ⟨σ,H,I,h⟩
theorem aAY(h1:PS X st t)(h2:PSs X rest u):PSs X (st::rest) (tSeq t u):=by
 intro pins s σ H D I h;refine wpAny_execs_cons (thn (h1 pins s σ H {D with nx:=u D} I h) λf s1 q=> ?_);cases f with
 |next=>obtain⟨σ',H',I',q⟩:=q;exact h2 pins s1 σ' H' D I' q
 |ret v=>exact q
 |brk=>exact q
 |cont=>exact q
theorem aIM(h1:PS X st t):PSs X [st] t:=by
 intro pins s σ H D I h;refine wpAny_execs_cons (thn (h1 pins s σ H D I h) λf s1 q=> ?_);cases f with
 |next=>exact wpAny_execs_nil q
 |ret v=>exact q
 |brk=>exact q
 |cont=>exact q
theorem Inv.quiet{pins:List (BQ×BZ)}{σ:St}{H:Hp}{s:BP}(I:Inv X pins σ H s):interactive X.env=false:=by simp[interactive,I.ok.kind]
noncomputable def aOw(te:TE):TS:=λD σ H=>te σ H λ_ H1=>D.nx σ H1
theorem rJ(he:PE X e te)(hs:Ak e none pos.line X.env=pure false:=by rfl):PS X (.Expr e pos) (aOw te):=by intro pins s σ H D I h;exact wpAny_Expr_any (thn (he pins s σ H _ I h) λv s1 ⟨x,H1,I1,r1,q1⟩=>⟨σ,H1,I1,q1⟩) I.quiet hs
noncomputable def tRet(te:TE):TS:=λD σ H=>te σ H D.rt
theorem aAT(he:PE X e te):PS X (.Return (some e) pos) (tRet te):=by intro pins s σ H D I h;exact wpAny_Return_some (thn (he pins s σ H _ I h) λv s1 ⟨x,H1,I1,r1,q1⟩=>⟨x,σ,H1,I1,r1,q1⟩)
noncomputable def tIfS(c:TT)(t u:TS):TS:=λD σ H=>c σ H λb H1=>if b=true then t D σ H1 else u D σ H1
theorem aOa{c:Expr}{a b:List BU}{tc:TT}(hc:PT X c tc)(ha:PSs X a t)(hb:PSs X b u):PS X (.If c a b pos) (tIfS tc t u):=by
 intro pins s σ H D I h;refine wpAny_If (thn (hc pins s σ H _ I h) λd s1 ⟨H1,I1,q1⟩=> ?_);cases d with
 |true=>exact ha pins s1 σ H1 D I1 q1
 |false=>exact hb pins s1 σ H1 D I1 q1
end
noncomputable abbrev TG:=V->St->Hp->(St->Hp->Prop)->Prop
noncomputable abbrev TGs:=List V->St->Hp->(St->Hp->Prop)->Prop
def PG(X:Cx)(target:Expr)(t:TG):Prop:=
 ∀ (pins:List (BQ×BZ)) (s:BP) (σ:St) (H:Hp) (v:V) (u:BO) (Q:St->Hp->Prop),Inv X pins σ H s->RelV v u->t v σ H Q->
  AH (AE X.prog X.w) X.A (assign target X.env u) (λ_ s'=>∃σ' H',Inv X pins σ' H' s'/\Q σ' H') X.xe s
def PGs(X:Cx)(ts:List Expr)(t:TGs):Prop:=
 ∀ (pins:List (BQ×BZ)) (s:BP) (σ:St) (H:Hp) (vs:List V) (us:List BO) (Q:St->Hp->Prop),Inv X pins σ H s->Vals vs us->t vs σ H Q->
  AH (AE X.prog X.w) X.A (assignInOrder ((BH ts X.env).map (·.2)) us) (λ_ s'=>∃σ' H',Inv X pins σ' H' s'/\Q σ' H') X.xe s
noncomputable abbrev TSet:=V->V->V->Hp->(Hp->Prop)->Prop
noncomputable abbrev TIp:=V->V->Hp->VK->Prop
section
variable {X:Cx}{pos:Pos}
noncomputable def aFB(i:Nat):TG:=λv σ H Q=>Q (σ.set i (some v)) H
theorem cP{i:Nat}{x:Str}(hN:X.N.Nodup)(hi:X.N[i]? =some x)(hx:Loc X.env.scope x)(hf:X.fn x=true\/X.env.scope.names.lookup x=some .local:=by first|exact .inl rfl|exact .inr rfl|assumption):PG X (.Name x pos) (aFB i):=by intro pins s σ H v u Q I r h;exact wpAny_assign_Name (aBb I hN hi hx r (λs' I'=>⟨_,H,I',h⟩) hf)
noncomputable def aPk:TGs:=λvs σ H Q=>vs=[]/\Q σ H
noncomputable def aLF(t:TG)(u:TGs):TGs:=λvs σ H Q=>∃v r,vs=v::r/\t v σ H λσ' H'=>u r σ' H' Q
theorem kO:PGs X [] aPk:=by intro pins s σ H vs us Q I r h;obtain⟨e,h⟩:=h;subst e;cases r;exact assignInOrder_nil ⟨σ,H,I,h⟩
theorem eU{e:Expr}{es:List Expr}{t:TG}{u:TGs}(h1:PG X e t)(h2:PGs X es u)
  (hs:(BH (e::es) X.env).map (·.2)=assign e X.env::(BH es X.env).map (·.2):=by rfl):PGs X (e::es) (aLF t u):=by
 intro pins s σ H vs us Q I r h;obtain⟨v,vr,e1,h⟩:=h;subst e1;cases r with
 |cons r rr=>rw[hs];refine assignInOrder_cons (thn (h1 pins s σ H _ _ _ I r h) λ_ s1 ⟨σ1,H1,I1,q1⟩=> ?_);exact h2 pins s1 σ1 H1 _ _ Q I1 rr q1
noncomputable def gTup(K:aA)(n:Nat)(t:TGs):TG:=λv σ H Q=>∃a xs,v=.ref a/\SqT K H a xs/\xs.length=n/\t xs σ H Q
theorem aNb{es:List Expr}{k:Nat}{t:TGs}{n:Nat}(hc:X.calm=true)(h:PGs X es t)
  (hn:(BH es X.env).length=n:=by rfl) (hst:(BH es X.env).findIdx? (·.1)=none:=by rfl):PG X (.Tuple es k pos) (gTup X.K n t):=by
 intro pins s σ H v u Q I r hw;obtain⟨a,xs,e1,hq,hl,hw⟩:=hw;subst e1;cases r;obtain⟨its,rv,ht,hz⟩:=I.tuple hq;refine assign_Tuple_tuple (I.ok.hd hc) ht (by simp[hn,<-hl,rv.length]) hst λh' hx=> ?_
 have I1:Inv X pins σ H {s with heap:=h'}:=I.kept (t':=s.toks) λb o e=>hx b o (bH (aK e)) e
 exact h pins _ σ H xs _ Q I1 (by simpa using rv) hw
noncomputable def aPd(te:TE)(g:TG):TS:=λD σ H=>te σ H λx H1=>g x σ H1 D.nx
theorem aLL{tg e:Expr}{te:TE}{g:TG}(he:PE X e te)(hg:PG X tg g)(hs:swapsWithSole [tg] e pos.line X.env=pure false:=by rfl)(hw:swappedStores [tg] e X.env=pure none:=by rfl)
  (h1:(BH [tg] X.env).map (·.2)=[assign tg X.env]:=by rfl):PS X (.Assign [tg] e pos) (aPd te g):=by
 intro pins s σ H D I h;refine wpAny_Assign_stores (thn (he pins s σ H _ I h) λv s1 ⟨x,H1,I1,r1,q1⟩=> ?_) hs hw;rw[h1];exact thn (hg pins s1 σ H1 x v _ I1 r1 q1) λ_ s2 q=>q
theorem qR{i:Nat}{x:Str}{e:Expr}{te:TE}{pos':Pos}(hN:X.N.Nodup)(hi:X.N[i]? =some x)(hx:Loc X.env.scope x)(he:PE X e te)(hs:Ak e (some (.Name x pos')) pos.line X.env=pure false:=by rfl)(hf:X.fn x=true\/X.env.scope.names.lookup x=some .local:=by first|exact .inl rfl|exact .inr rfl|assumption):
  PS X (.Assign [.Name x pos'] e pos) (aPd te (aFB i)):=by
 intro pins s σ H D I h;refine wpAny_Assign_Name (thn (he pins s σ H _ I h) λv s1 ⟨y,H1,I1,r1,q1⟩=> ?_) hs;exact aBb I1 hN hi hx r1 (λs2 I2=>⟨_,H1,I2,q1⟩) hf
noncomputable def aMM(c:TT)(tb:TS):TS:=λD σ H=>∃W:Nat->St->Hp->Prop,(∃m,W m σ H)/\∀m σ H,W m σ H->
 c σ H λb H1=>if b=true then ∃N:St->Hp->Prop,(∀σ' H',N σ' H'->∃m',m'<m/\W m' σ' H')/\tb {D with nx:=N,ct:=N,bk:=D.nx} σ H1 else D.nx σ H1
theorem aFZ{c:Expr}{body:List BU}{tc:TT}{tb:TS}(hp:PassesOwn (AE X.prog X.w) X.A X.env X.xe)(hc:PT X c tc)(hb:PSs X body tb):PS X (.While c body [] pos) (aMM tc tb):=by
 intro pins s σ H D I h;obtain⟨W,⟨m0,w0⟩,turn⟩:=h;refine wpAny_While (codeAny_whileLoop (λn s'=>∃σ' H',Inv X pins σ' H' s'/\W n σ' H') ?_ m0 ⟨σ,H,I,w0⟩);rintro n s1 ⟨σ1,H1,I1,w1⟩;refine At hp (thn (hc pins s1 σ1 H1 _ I1 (turn n σ1 H1 w1)) λb s2 ⟨H2,I2,q2⟩=> ?_);cases b with
 |true=>
  obtain⟨N,hN,q2⟩:=q2;rw[if_pos rfl];refine At hp (thn (hb pins s2 σ1 H2 _ I2 q2) λf s3 q3=> ?_);cases f with
  |next=>obtain⟨σ3,H3,I3,n3⟩:=q3;obtain⟨m',hm,w3⟩:=hN σ3 H3 n3;exact⟨m',hm,σ3,H3,I3,w3⟩
  |cont=>obtain⟨σ3,H3,I3,n3⟩:=q3;obtain⟨m',hm,w3⟩:=hN σ3 H3 n3;exact⟨m',hm,σ3,H3,I3,w3⟩
  |brk=>exact q3
  |ret v=>exact q3
 |false=>rw[if_neg bN];exact wpAny_execs_nil ⟨σ1,H2,I2,q2⟩
end
structure It where
 go:Nat->Hp->Prop
 yld:Nat->Hp->V->Hp->Prop
 stop:Nat->Hp->Prop
def uA(X:Cx)(pins:List (BQ×BZ))(H:Hp)(b:BQ):Prop:=
 H b=none/\b≠X.env.locals/\b∉X.fs/\(b∈X.ex\/X.s₀.heap.objs.size<=b)/\(∀x c,X.env.cells.lookup x=some c->c≠b)/\∀p∈X.pn++pins,p.1≠b
theorem Inv.fpOk{X:Cx}{pins:List (BQ×BZ)}{σ:St}{H H':Hp}{s:BP}{b:BQ}(I:Inv X pins σ H s)(hb:s.heap.objs.size<=b)(hn:H' b=none):uA X pins H' b:=by
 refine⟨hn,gG (aY I.lt hb),I.nofs hb,.inr (cO I.sz hb),λx c e z=> ?_,λp hp z=> ?_⟩
 ·obtain⟨v,q⟩:=I.cell x c e;exact absurd (aY q.lt (by rw[z];exact hb)) (eA _)
 ·exact absurd (aY (aK (I.pin p hp).1) (by rw[z];exact hb)) (eA _)
structure aHc(P:AG)(w:AL)(K:aA)(tg:Expr)(J:It)(fp:List BQ)(it:BQ)(tn:Nat->BS->Prop):Prop where
 mem:it∈fp
 obj:∀i h,tn i h->∀b∈fp,∃o,h.get? b=some o/\∀v,o.data≠ .cell v
 keep:∀i h h',tn i h->(∀b∈fp,∀o,h.get? b=some o->h'.get? b=some o)->tn i h'
 item:∀ (X:Cx),X.prog=P->X.w=w->X.K=K->X.calm=true->∀ (i:Nat) (pins:List (BQ×BZ)) (s:BP) (σ:St) (H:Hp) (E:BO->BP->Prop),Inv X pins σ H s->(∀b∈fp,uA X pins H b)->tn i s.heap->J.go i H->
  AH (AE P w) X.A (pyNext (.ref it)) (fun r s1=>∃u,r=some u∧
   AH (AE P w) X.A (letOwnedTupleGo tg (.ref it) u) (λ_ s2=>∃x H',Inv X pins σ H' s2/\RelV x u/\J.yld i H x H'/\tn (i+1) s2.heap/\∀b∈fp,H' b=none) E s1) E s
 done:∀ (X:Cx),X.prog=P->X.w=w->X.K=K->X.calm=true->∀ (i:Nat) (pins:List (BQ×BZ)) (s:BP) (σ:St) (H:Hp) (E:BO->BP->Prop),Inv X pins σ H s->(∀b∈fp,uA X pins H b)->tn i s.heap->J.stop i H->
  AH (AE P w) X.A (pyNext (.ref it)) (λr s1=>r=none/\Inv X pins σ H s1) E s
 self:∀ (A:BR) (i:Nat) (s:BP) (Q:BO->BP->Prop) (E:BO->BP->Prop),tn i s.heap->Q (.ref it) s->AH (AE P w) A (pyIter (.ref it)) Q E s
noncomputable abbrev TI:=St->Hp->(It->Hp->Prop)->Prop
def PIE(X:Cx)(pins:List (BQ×BZ))(σ:St)(tg:Expr)(R:It->Hp->Prop)(itv:BO)(s2:BP):Prop:=
 ∃ (it:BQ) (fp:List BQ) (tn:Nat->BS->Prop) (J:It) (H':Hp),itv=.ref it/\Inv X pins σ H' s2/\aHc X.prog X.w X.K tg J fp it tn/\tn 0 s2.heap/\(∀b∈fp,uA X pins H' b)/\R J H'
def PI(X:Cx)(tg iter:Expr)(wi:TI):Prop:=
 ∀ (pins:List (BQ×BZ)) (s:BP) (σ:St) (H:Hp) (R:It->Hp->Prop),Inv X pins σ H s->wi σ H R->
  AH (AE X.prog X.w) X.A (eval iter X.env) (λv s1=>AH (AE X.prog X.w) X.A (pyIter v) (PIE X pins σ tg R) X.xe s1) X.xe s
theorem aIw{M:Model}{A:BR}{E:BO->BP->Prop}{s:BP}{tg:Expr}{it:BQ}{u:BO}{o:BZ}{n:String}{vs:Array BO}{Q:Unit->BP->Prop}(ho:s.heap.get? it=some o)(hc:o.cls=.type n)(hd:o.data=.fields vs)
  (hn:["enumerate","zip","dict_itemiterator","dict_reverseitemiterator","odict_iterator","itertools.zip_longest","itertools.pairwise"].contains n=false) (hQ:Q () s):AH M A (letOwnedTupleGo tg (.ref it) u) Q E s:=by
 unfold letOwnedTupleGo
 cases tg<;>first
  |exact AB hQ
  | (cases u<;>first
    |exact AB hQ
    | (refine AA (wpAny_load ho ?_)
       rw[hc,hd];show AH M A (if(["enumerate","zip","dict_itemiterator","dict_reverseitemiterator","odict_iterator","itertools.zip_longest","itertools.pairwise"].contains n&&vs[0]? ==some (Ax _))=true then _ else _) Q E s;rw[if_neg (by intro h;rw[hn,qC] at h;cases h)]
       exact AB hQ))
noncomputable def Itl(K:aA)(a:BQ):It:=
 ⟨λi H=>∃xs x,SqL K H a xs/\xs[i]? =some x,λi H x H'=>H'=H/\∀xs,SqL K H a xs->xs[i]? =some x,λi H=>∃xs,SqL K H a xs/\xs.length<=i⟩
noncomputable def Itt(K:aA)(a:BQ):It:=
 ⟨λi H=>∃xs x,SqT K H a xs/\xs[i]? =some x,λi H x H'=>H'=H/\∀xs,SqT K H a xs->xs[i]? =some x,λi H=>∃xs,SqT K H a xs/\xs.length<=i⟩
noncomputable def Itr(lo:Int)(n:Nat):It:=⟨λi _=>i<n,λi H x H'=>H'=H/\x=.int (lo+i),λi _=>n<=i⟩
theorem aEP{P:AG}{w:AL}{K:aA}{tg:Expr}(a it:BQ):aHc P w K tg (Itl K a) [it] it (λi h=>h.IsListIter it a i) where
 mem:=by simp
 obj:=λi h st b hb=>by
  have e:b=it:=by simpa using hb
  subst e;obtain⟨o,e,c,d⟩:=st;exact⟨o,e,λv z=>by rw[d] at z;cases z⟩
 keep:=λi h h' st k=>st.at λo e=>k it (by simp) o e
 item:=by
  intro X hP hw hK hc i pins s σ H E I hf st hg;subst hP hw hK;obtain⟨xs,x,hq,hx⟩:=hg;obtain⟨its,rv,p,hz⟩:=I.list hq;obtain⟨u,hu,ru⟩:=rv.get hx;obtain⟨f0,f1,f2,f3,f4,f5⟩:=hf it (by simp);refine wpAny_pyNext_list_item st p.isList (x:=u) (by simpa using hu) λh' st' sb=> ?_
  have I1:Inv X pins σ H {s with heap:=h'}:=I.turned (t':=s.toks) (λb o hb e=>(sb.2 b hb).trans e) f0 f1 f3 f4 f5;obtain⟨o,e,c,d⟩:=id st';exact⟨u,rfl,aIw (s:={s with heap:=h'}) e c d (by decide) ⟨x,H,I1,ru,⟨rfl,λys hy=>by rw[I.list_inj hy hq];exact hx⟩,st',λb hb=>(hf b hb).1⟩⟩
 done:=by intro X hP hw hK hc i pins s σ H E I hf st hg;subst hP hw hK;obtain⟨xs,hq,hx⟩:=hg;obtain⟨its,rv,p,hz⟩:=I.list hq;obtain⟨f0,f1,f2,f3,f4,f5⟩:=hf it (by simp);have hl:=rv.length;exact wpAny_pyNext_list_end (I.ok.hd hc) st p.isList (by simp;omega) λh' eb=>⟨rfl,I.turned (t':=s.toks) (λb o hb e=>eb b o hb e) f0 f1 f3 f4 f5⟩
 self:=λ_ _ _ _ _ st h=>wpAny_pyIter_listiter st h
theorem aCa{P:AG}{w:AL}{K:aA}{tg:Expr}(a it:BQ):aHc P w K tg (Itt K a) [it] it (λi h=>h.IsTupleIter it a i) where
 mem:=by simp
 obj:=λi h st b hb=>by
  have e:b=it:=by simpa using hb
  subst e;obtain⟨o,e,c,d⟩:=st;exact⟨o,e,λv z=>by rw[d] at z;cases z⟩
 keep:=λi h h' st k=>st.at λo e=>k it (by simp) o e
 item:=by
  intro X hP hw hK hc i pins s σ H E I hf st hg;subst hP hw hK;obtain⟨xs,x,hq,hx⟩:=hg;obtain⟨its,rv,p,hz⟩:=I.tuple hq;obtain⟨u,hu,ru⟩:=rv.get hx;obtain⟨f0,f1,f2,f3,f4,f5⟩:=hf it (by simp);refine wpAny_pyNext_tuple_item st (show s.heap.IsTuple a its.toArray from p) (x:=u) (by simpa using hu) λh' st' sb=> ?_
  have I1:Inv X pins σ H {s with heap:=h'}:=I.turned (t':=s.toks) (λb o hb e=>(sb.2 b hb).trans e) f0 f1 f3 f4 f5;obtain⟨o,e,c,d⟩:=id st';exact⟨u,rfl,aIw (s:={s with heap:=h'}) e c d (by decide) ⟨x,H,I1,ru,⟨rfl,λys hy=>by rw[I.tuple_inj hy hq];exact hx⟩,st',λb hb=>(hf b hb).1⟩⟩
 done:=by intro X hP hw hK hc i pins s σ H E I hf st hg;subst hP hw hK;obtain⟨xs,hq,hx⟩:=hg;obtain⟨its,rv,p,hz⟩:=I.tuple hq;obtain⟨f0,f1,f2,f3,f4,f5⟩:=hf it (by simp);have hl:=rv.length;exact wpAny_pyNext_tuple_end (I.ok.hd hc) st (show s.heap.IsTuple a its.toArray from p) (by simp;omega) λh' eb=>⟨rfl,I.turned (t':=s.toks) (λb o hb e=>eb b o hb e) f0 f1 f3 f4 f5⟩
 self:=λ_ _ _ _ _ st h=>wpAny_pyIter_tupleiter st h
theorem aCc{P:AG}{w:AL}{K:aA}{tg:Expr}(it:BQ)(lo:Int)(n:Nat):aHc P w K tg (Itr lo n) [it] it (λi h=>IsRangeIter h it (lo+(i:Nat)*1) ((n:Int)-(i:Nat)) 1) where
 mem:=by simp
 obj:=λi h st b hb=>by
  have e:b=it:=by simpa using hb
  subst e
  exact ⟨_,st,fun v z=>by
   have z':Data.fields _=Data.cell v:=z
   cases z'⟩
 keep:=λi h h' st k=>k it (by simp) _ st
 item:=by
  intro X hP hw hK hc i pins s σ H E I hf st hg;subst hP hw hK;obtain⟨f0,f1,f2,f3,f4,f5⟩:=hf it (by simp);have W:=Walks.range (prog:=X.prog) (w:=X.w) (I.ok.hd hc) it lo 1 n;refine W.item i s _ _ hg st λv h' tk hv st' kk=> ?_
  obtain⟨t,rfl⟩:=hv;have I1:Inv X pins σ H {s with heap:=h',toks:=tk}:=I.turned (λb o hb e=>kk b o (by simpa using hb) e) f0 f1 f3 f4 f5;refine⟨_,rfl,aIw (s:={s with heap:=h',toks:=tk}) (n:="range_iterator") st' rfl rfl (by decide) ⟨.int (lo+i),H,I1,⟨t, ?_⟩,⟨rfl,rfl⟩,st',λb hb=>(hf b hb).1⟩⟩;rw[Int.mul_one]
 done:=by intro X hP hw hK hc i pins s σ H E I hf st hg;subst hP hw hK;obtain⟨f0,f1,f2,f3,f4,f5⟩:=hf it (by simp);exact wpAny_pyNext_range_end (I.ok.hd hc) st (by have:n<=i:=hg;omega) λh' eb=>⟨rfl,I.turned (t':=s.toks) (λb o hb e=>eb b o hb e) f0 f1 f3 f4 f5⟩
 self:=λ_ _ _ _ _ st h=>wpAny_pyIter_rangeiter st h
section
variable {X:Cx}{tg:Expr}
noncomputable def aNX(K:aA)(tl:TE):TI:=λσ H R=>tl σ H λx H1=>∃a,x=.ref a/\(∃xs,SqL K H1 a xs)/\R (Itl K a) H1
noncomputable def iTup(K:aA)(tl:TE):TI:=λσ H R=>tl σ H λx H1=>∃a,x=.ref a/\(∃xs,SqT K H1 a xs)/\R (Itt K a) H1
theorem aKj{l:Expr}{tl:TE}(hl:PE X l tl):PI X tg l (aNX X.K tl):=by
 intro pins s σ H R I h;refine thn (hl pins s σ H _ I h) λv s1 ⟨x,H1,I1,r1,q1⟩=> ?_
 obtain⟨a,e,⟨xs,hq⟩,q⟩:=q1;subst e;cases r1;obtain⟨its,rv,p,hz⟩:=I1.list hq;refine BG p.isList ?_;refine⟨s1.heap.objs.size,[s1.heap.objs.size],_,_,H1,rfl,I1.kept (t':=s1.toks) λb o e=>aD _ e,aEP a _,⟨_,aZ _ rfl,rfl,rfl⟩,λb hb=> ?_,q⟩;have e:b=s1.heap.objs.size:=by simpa using hb
 subst e;exact I1.fpOk (aM _) (I1.hok.fresh (aM _))
theorem aLY{l:Expr}{tl:TE}(hl:PE X l tl):PI X tg l (iTup X.K tl):=by
 intro pins s σ H R I h;refine thn (hl pins s σ H _ I h) λv s1 ⟨x,H1,I1,r1,q1⟩=> ?_
 obtain⟨a,e,⟨xs,hq⟩,q⟩:=q1;subst e;cases r1;obtain⟨its,rv,p,hz⟩:=I1.tuple hq;refine wpAny_pyIter_tuple (show s1.heap.IsTuple a its.toArray from p) ?_;refine⟨s1.heap.objs.size,[s1.heap.objs.size],_,_,H1,rfl,I1.kept (t':=s1.toks) λb o e=>aD _ e,aCa a _,⟨_,aZ _ rfl,rfl,rfl⟩,λb hb=> ?_,q⟩;have e:b=s1.heap.objs.size:=by simpa using hb
 subst e;exact I1.fpOk (aM _) (I1.hok.fresh (aM _))
theorem aGb{pins:List (BQ×BZ)}{σ:St}{H:Hp}{s:BP}{R:It->Hp->Prop}{E:BO->BP->Prop}{lo hi:Int}{t u v:Tok}{tk:Nat}(I:Inv X pins σ H s)(h1: -(2^62)<=lo)(h2:lo<2^62)(h3: -(2^62)<=hi)(h4:hi<2^62)
  (q:R (Itr lo (hi-lo).toNat) H):AH (AE X.prog X.w) X.A (pyIter (.ref s.heap.objs.size)) (PIE X pins σ tg R) E {s with heap:=s.heap.push {cls:=.type "range",data:=.fields #[.int lo t,.int hi u,.int 1 v]},toks:=tk}:=by
 refine wpAny_pyIter_range (IsRange.new ..) (small_one h1 h2 h3 h4) ?_;have I1:Inv X pins σ H {s with heap:=s.heap.push {cls:=.type "range",data:=.fields #[.int lo t,.int hi u,.int 1 v]},toks:=tk}:=I.kept λb o e=>aD _ e
 refine ⟨(s.heap.push {cls:= .type "range",data:= .fields #[.int lo t, .int hi u, .int 1 v]}).objs.size,[(s.heap.push {cls:= .type "range",data:= .fields #[.int lo t, .int hi u, .int 1 v]}).objs.size],_,_,H,rfl,
  I1.kept (t':=tk) λb o e=>aD _ e,aCc _ lo (hi-lo).toNat, ?_,λb hb=> ?_,q⟩
 ·have e1:lo+((0:Nat):Int)*1=lo:=by simp
  have e2:(((hi-lo).toNat:Nat):Int)-((0:Nat):Int)=Builtin.Range.rangeSize lo hi 1:=by rw[rangeSize_one];split<;>omega
  show IsRangeIter _ _ (lo+((0:Nat):Int)*1) ((((hi-lo).toNat:Nat):Int)-((0:Nat):Int)) 1;rw[e1,e2];exact aZ _ rfl
 ·have e:b=(s.heap.push {cls:=.type "range",data:=.fields #[.int lo t,.int hi u,.int 1 v]}).objs.size:=by simpa using hb
  subst e;exact I1.fpOk (aM _) (I1.hok.fresh (aM _))
noncomputable def aNW(ta:TA):TI:=λσ H R=>ta σ H λvs H1=>∃j:Int,vs=[.int j]/\ -(2^62)<=j/\j<2^62/\R (Itr 0 j.toNat) H1
theorem aEN{a:Expr}{ta:TA}{p pos:Pos}(hg:Gl X "range")(hm:X.mg "range"=none)(ha:PA X [a] ta)(hs:AD [a] X.env=[(false,eval a X.env)]:=by rfl):PI X tg (.Call (.Name "range" p) [a] [] pos) (aNW ta):=by
 intro pins s σ H R I h;refine Call_ (lU I hg hm boot_range (PyProof.Rows.callWith_type1 (thn (ha pos pins s σ H _ I h) λus s1 ⟨vs,H1,I1,r1,q1⟩=> ?_) hs rfl));obtain⟨j,e,q1,q2,q⟩:=q1;subst e;cases r1 with
 |cons r rr=>cases rr;obtain⟨t,rfl⟩:=r;exact call_range_1 (aGb I1 (by omega) (by omega) q1 q2 (by simpa using q))
noncomputable def tFor(wi:TI)(g:TG)(tb:TS):TS:=λD σ H=>wi σ H λJ H1=>∃W:Nat->Nat->St->Hp->Prop,(∃m,W 0 m σ H1)/\∀i m σ H,W i m σ H->
 (J.stop i H/\D.nx σ H)\/(J.go i H/\∃N:St->Hp->Prop,(∀σ' H',N σ' H'->∃m',m'<m/\W (i+1) m' σ' H')/\∀x H',J.yld i H x H'->g x σ H' λσ2 H2=>tb {D with nx:=N,ct:=N,bk:=D.nx} σ2 H2)
noncomputable def oB(fp:List BQ)(h:BS):List (BQ×BZ):=fp.filterMap λb=>(h.get? b).map λo=>(b,o)
theorem jQ{fp:List BQ}{h:BS}{b:BQ}{o:BZ}(hb:b∈fp)(e:h.get? b=some o):(b,o)∈oB fp h:=sL.mpr ⟨b,hb,by rw[e];rfl⟩
theorem tL{fp:List BQ}{h:BS}{p:BQ×BZ}(hp:p∈oB fp h):p.1∈fp/\h.get? p.1=some p.2:=by
 obtain⟨b,hb,e⟩:=sL.mp hp;cases q:h.get? b with
 |none=>rw[q] at e;cases e
 |some o=>rw[q] at e;have e':(b,o)=p:=cC.inj e;subst e';exact⟨hb,q⟩
theorem Inv.pinned{pins:List (BQ×BZ)}{σ:St}{H:Hp}{s:BP}{fp:List BQ}(I:Inv X pins σ H s)(hf:∀b∈fp,uA X pins H b)(ho:∀b∈fp,∃o,s.heap.get? b=some o/\∀v,o.data≠ .cell v):Inv X (pins++oB fp s.heap) σ H s:=
 I.pins_of λp hp=>(bC.mp hp).elim (λz=>I.pin p (aS _ z)) λz=>by obtain⟨hb,e⟩:=tL z;obtain⟨f0,f1,f2,_⟩:=hf p.1 hb;obtain⟨o,e',d⟩:=ho p.1 hb;rw[e] at e';cases e';exact⟨e,f0,f1,f2,d⟩
theorem Inv.unpinned{pins pl:List (BQ×BZ)}{σ:St}{H:Hp}{s:BP}(I:Inv X (pins++pl) σ H s):Inv X pins σ H s:=I.pins_of λp hp=>I.pin p (aS _ (bZ _ hp))
theorem aHv{iter:Expr}{body:List BU}{wi:TI}{g:TG}{tb:TS}{pos:Pos}(hp:PassesOwn (AE X.prog X.w) X.A X.env X.xe)(hc:X.calm=true)(hi:PI X tg iter wi)(hg:PG X tg g)(hb:PSs X body tb)
  (hs:∀x,foldedSetIterable iter X.env x=pure x:=by intro _;rfl):PS X (.For tg iter body [] pos) (tFor wi g tb):=by
 intro pins s σ H D I h;refine wpAny_For (thn (hi pins s σ H _ I h) λv s1 h1=>thn h1 λitv s2 h2=> ?_) hs;obtain⟨it,fp,tn,J,H2,e,I2,T,st2,f2,W,⟨m0,w0⟩,turn⟩:=h2;subst e
 have stat:∀ {H':Hp},(∀b∈fp,H' b=none)->∀b∈fp,uA X pins H' b:=λhn b hb=>⟨hn b hb,(f2 b hb).2⟩
 refine codeAny_forLoop_any (λn s'=>∃i σ' H',Inv X pins σ' H' s'/\tn i s'.heap/\(∀b∈fp,H' b=none)/\W i n σ' H') ?_ m0 ⟨0,σ,H2,I2,st2,λb hb=>(f2 b hb).1,w0⟩;rintro n s3 ⟨i,σ3,H3,I3,st3,fr3,w3⟩
 rcases turn i n σ3 H3 w3 with⟨stop,qn⟩|⟨go,N,hN,step⟩
 ·refine At hp (thn (T.done X rfl rfl rfl hc i pins s3 σ3 H3 X.xe I3 (stat fr3) st3 stop) λr s4 ⟨hr,I4⟩=> ?_);subst hr;exact wpAny_execs_nil ⟨σ3,H3,I4,qn⟩
 ·refine At hp (thn (T.item X rfl rfl rfl hc i pins s3 σ3 H3 X.xe I3 (stat fr3) st3 go) λr s4 ⟨u,hr,h4⟩=> ?_);subst hr;refine At hp (thn h4 λ_ s5 ⟨x,H5,I5,r5,y5,st5,fr5⟩=> ?_);have I5':=I5.pinned (stat fr5) (T.obj _ _ st5);refine At hp (thn (hg _ s5 σ3 H5 x u _ I5' r5 (step x H5 y5)) λ_ s6 ⟨σ6,H6,I6,q6⟩=> ?_);refine At hp (thn (hb _ s6 σ6 H6 _ I6 q6) λf s7 q7=> ?_)
  have again:∀ {σ7:St}{H7:Hp},Inv X (pins++oB fp s5.heap) σ7 H7 s7->N σ7 H7->∃m,m<n/\∃i σ' H',Inv X pins σ' H' s7/\tn i s7.heap/\(∀b∈fp,H' b=none)/\W i m σ' H':=λ{σ7 H7} I7 n7=>by obtain⟨m',hm,w7⟩:=hN σ7 H7 n7;refine⟨m',hm,i+1,σ7,H7,I7.unpinned,T.keep _ _ _ st5 λb hb o e=>(I7.pin (b,o) (aS _ (aS _ (jQ hb e)))).1,λb hb=> ?_,w7⟩;obtain⟨o,e,d⟩:=T.obj _ _ st5 b hb;exact(I7.pin (b,o) (aS _ (aS _ (jQ hb e)))).2.1
  cases f with
  |next=>obtain⟨σ7,H7,I7,n7⟩:=q7;exact again I7 n7
  |cont=>obtain⟨σ7,H7,I7,n7⟩:=q7;exact again I7 n7
  |brk=>obtain⟨σ7,H7,I7,q7⟩:=q7;exact⟨σ7,H7,I7.unpinned,q7⟩
  |ret v=>obtain⟨x7,σ7,H7,I7,r7,q7⟩:=q7;exact⟨x7,σ7,H7,I7.unpinned,r7,q7⟩
end
noncomputable abbrev R2:=V->V->Hp->VK->Prop
def OpR(X:Cx)(f:BO->BO->Sem BO)(r:R2):Prop:=
 ∀ (pins:List (BQ×BZ)) (s:BP) (σ:St) (H:Hp) (x y:V) (v u:BO) (Q:VK),Inv X pins σ H s->RelV x v->RelV y u->r x y H Q->
  AH (AE X.prog X.w) X.A (f v u) (EP X pins σ Q) X.xe s
def UnR(X:Cx)(f:BO->Sem BO)(r:V->Hp->VK->Prop):Prop:=
 ∀ (pins:List (BQ×BZ)) (s:BP) (σ:St) (H:Hp) (x:V) (v:BO) (Q:VK),Inv X pins σ H s->RelV x v->r x H Q->
  AH (AE X.prog X.w) X.A (f v) (EP X pins σ Q) X.xe s
def mH(X:Cx)(f:BO)(r:List V->Hp->VK->Prop):Prop:=
 ∀ (pins:List (BQ×BZ)) (s:BP) (σ:St) (H:Hp) (xs:List V) (us:List BO) (Q:VK),Inv X pins σ H s->Vals xs us->r xs H Q->
  AH (AE X.prog X.w) X.A (call f us) (EP X pins σ Q) X.xe s
noncomputable def tOp(r:R2)(ta tb:TE):TE:=λσ H Q=>ta σ H λx H1=>tb σ H1 λy H2=>r x y H2 Q
noncomputable def tUn(r:V->Hp->VK->Prop)(ta:TE):TE:=λσ H Q=>ta σ H λx H1=>r x H1 Q
noncomputable def rI(C:Int->Int->Prop)(g:Int->Int->V):R2:=λx y H Q=>∃i j,x=.int i/\y=.int j/\C i j/\Q (g i j) H
noncomputable def rI0(g:Int->Int->V):R2:=λx y H Q=>∃i j,x=.int i/\y=.int j/\Q (g i j) H
def rU(g:Int->V):V->Hp->VK->Prop:=λx H Q=>∃i,x=.int i/\Q (g i) H
section
variable {X:Cx}{a b c:Expr}{ta tb tc:TE}{pos:Pos}
theorem aNz(ha:PE X a ta)(hb:PE X b tb){pins:List (BQ×BZ)}{s:BP}{σ:St}{H:Hp}{R:V->V->Hp->Prop}(I:Inv X pins σ H s)
  (h:ta σ H λx H1=>tb σ H1 λy H2=>R x y H2) {Q:BO->BP->Prop}{f:BO->BO->Sem BO}
  (hf:∀v u s2 x y H2,Inv X pins σ H2 s2->RelV x v->RelV y u->R x y H2->AH (AE X.prog X.w) X.A (f v u) Q X.xe s2):
  AH (AE X.prog X.w) X.A (eval a X.env) (λv s₁=>AH (AE X.prog X.w) X.A (eval b X.env) (λu s₂=>AH (AE X.prog X.w) X.A (f v u) Q X.xe s₂) X.xe s₁) X.xe s:=by
 refine thn (ha pins s σ H _ I h) λv s1 ⟨x,H1,I1,r1,q1⟩=> ?_
 refine thn (hb pins s1 σ H1 _ I1 q1) λu s2 ⟨y,H2,I2,r2,q2⟩=> ?_
 exact hf v u s2 x y H2 I2 r1 r2 q2
theorem aOI{op:Operator}{r:R2}(ho:OpR X (Al op) r)(ha:PE X a ta)(hb:PE X b tb):PE X (.BinOp a op b pos) (tOp r ta tb):=by intro pins s σ H Q I h;exact wpAny_BinOp (aNz ha hb I h λv u s2 x y H2 I2 rx ry q=>ho pins s2 σ H2 x y v u Q I2 rx ry q)
theorem aKX{op:UnaryOp}{r:V->Hp->VK->Prop}(ho:UnR X (unaryOp op) r)(ha:PE X a ta):PE X (.UnaryOp op a pos) (tUn r ta):=by intro pins s σ H Q I h;exact UnaryOp_ (thn (ha pins s σ H _ I h) λv s1 ⟨x,H1,I1,r1,q1⟩=>ho pins s1 σ H1 x v Q I1 r1 q1)
theorem opI{f:BO->BO->Sem BO}{C:Int->Int->Prop}{g:Int->Int->Int}
  (rule:∀ (i j:Int) (t u:Tok) (s:BP) (Q:BO->BP->Prop) (E:BO->BP->Prop),C i j->Q (.int (g i j) s.toks) {s with toks:=s.toks+1}->AH (AE X.prog X.w) X.A (f (.int i t) (.int j u)) Q E s):
  OpR X f (rI C λi j=>.int (g i j)):=by
 intro pins s σ H x y v u Q I rx ry h;obtain⟨i,j,rfl,rfl,hc,q⟩:=h;obtain⟨t,rfl⟩:=rx;obtain⟨t',rfl⟩:=ry;exact rule i j t t' s _ _ hc ⟨.int (g i j),H,I.tok _,⟨_,rfl⟩,q⟩
theorem aKN{f:BO->BO->Sem BO}{g:Int->Int->Int}
  (rule:∀ (i j:Int) (t u:Tok) (s:BP) (Q:BO->BP->Prop) (E:BO->BP->Prop),Q (.int (g i j) s.toks) {s with toks:=s.toks+1}->AH (AE X.prog X.w) X.A (f (.int i t) (.int j u)) Q E s):
  OpR X f (rI0 λi j=>.int (g i j)):=by
 intro pins s σ H x y v u Q I rx ry h;obtain⟨i,j,rfl,rfl,q⟩:=h;obtain⟨t,rfl⟩:=rx;obtain⟨t',rfl⟩:=ry;exact rule i j t t' s _ _ ⟨.int (g i j),H,I.tok _,⟨_,rfl⟩,q⟩
theorem aNi{f:BO->BO->Sem BO}{g:Int->Int->Bool}
  (rule:∀ (i j:Int) (t u:Tok) (s:BP) (Q:BO->BP->Prop) (E:BO->BP->Prop),Q (.bool (g i j)) s->AH (AE X.prog X.w) X.A (f (.int i t) (.int j u)) Q E s):
  OpR X f (rI0 λi j=>.bl (g i j)):=by
 intro pins s σ H x y v u Q I rx ry h;obtain⟨i,j,rfl,rfl,q⟩:=h;obtain⟨t,rfl⟩:=rx;obtain⟨t',rfl⟩:=ry;exact rule i j t t' s _ _ ⟨.bl (g i j),H,I,rfl,q⟩
def CDiv(i j:Int):Prop:=0<j/\j<1073741824
def CPow(i j:Int):Prop:=0<=j/\j<=1000000/\i.natAbs<2^64
def CMul(i j:Int):Prop:=(-(2^64)<i/\i<2^64)\/(-(2^64)<j/\j<2^64)
theorem CMul.ok{i j:Int}(h:CMul i j):IntMulOk i j:=by
 rcases h with⟨h1,h2⟩|⟨h1,h2⟩
 ·exact .of_left (intBits_le_64 h1 h2)
 ·exact .of_right (intBits_le_64 h1 h2)
theorem iL:OpR X (Al .Add) (rI0 λi j=>.int (i+j)):=aKN λ_ _ _ _ _ _ _ q=>add_int q
theorem qG:OpR X (Al .Sub) (rI0 λi j=>.int (i-j)):=aKN λ_ _ _ _ _ _ _ q=>sub_int q
theorem aNa:OpR X (Al .Mult) (rI CMul λi j=>.int (i*j)):=opI λ_ _ _ _ _ _ _ hc q=>mul_int q hc.ok
theorem aKs:OpR X (Al .FloorDiv) (rI CDiv λi j=>.int (i / j)):=opI λi j _ _ _ _ _ hc q=>by have h1:(0:Int)<j:=hc.1;have h2:j<1073741824:=hc.2;exact floordiv_int (by omega) (by rw[aAi i (by omega)];exact q) (.inl (PyProof.noPylong_small (by omega)))
theorem eX:OpR X (Al .Mod) (rI (λ_ j=>0<j) λi j=>.int (i%j)):=opI λi j _ _ _ _ _ hc q=>by have h1:(0:Int)<j:=hc;exact mod_int' (by omega) (by rw[Int.fmod_eq_emod_of_nonneg i (by omega)];exact q)
theorem aHB:OpR X (Al .LShift) (rI CPow λi j=>.int (i*2^j.toNat)):=opI λ_ _ _ _ _ _ _ hc q=>lshift_int_small hc.1 hc.2.1 hc.2.2 q
theorem aHu:OpR X (Al .BitAnd) (rI0 λi j=>.int (Builtin.bitAnd i j)):=aKN λ_ _ _ _ _ _ _ q=>and_int q
theorem aLq:OpR X (Al .BitOr) (rI0 λi j=>.int (Builtin.bitOr i j)):=aKN λ_ _ _ _ _ _ _ q=>or_int q
theorem aHm:OpR X (Al .BitXor) (rI0 λi j=>.int (Builtin.bitXor i j)):=aKN λ_ _ _ _ _ _ _ q=>xor_int q
theorem unI{f:BO->Sem BO}{g:Int->Int}
  (rule:∀ (i:Int) (t:Tok) (s:BP) (Q:BO->BP->Prop) (E:BO->BP->Prop),Q (.int (g i) s.toks) {s with toks:=s.toks+1}->AH (AE X.prog X.w) X.A (f (.int i t)) Q E s):
  UnR X f (rU λi=>.int (g i)):=by
 intro pins s σ H x v Q I rx h;obtain⟨i,rfl,q⟩:=h;obtain⟨t,rfl⟩:=rx;exact rule i t s _ _ ⟨.int (g i),H,I.tok _,⟨_,rfl⟩,q⟩
theorem aHQ:UnR X (unaryOp .USub) (rU λi=>.int (-i)):=unI λ_ _ _ _ _ q=>neg_int q
end
noncomputable def aOT:V->V->Bool
 |.non,.non=>true | .non,.int _=>true | .int _,.non=>true | .non,.bl _=>true | .bl _,.non=>true | .non,.str _=>true | .str _,.non=>true
 |.int _,.int _=>true | .bl _,.bl _=>true | .str _,.str _=>true | .byt _,.byt _=>true
 |.int _,.str _=>true | .str _,.int _=>true | .bl _,.str _=>true | .str _,.bl _=>true
 |_,_=>false
noncomputable def rEq:R2:=λx y H Q=>aOT x y=true/\Q (.bl (decide (x=y))) H
theorem aAw{i j:Int}:decide (V.int i=V.int j)=(i==j):=by rw[kA];simp
theorem aMw{i j:Bool}:decide (V.bl i=V.bl j)=(i==j):=by rw[kA];simp
theorem aJq{i j:Str}:decide (V.str i=V.str j)=(i==j):=by rw[kA];simp
theorem aKk{i j:Array UInt8}:decide (V.byt i=V.byt j)=(i.toList==j.toList):=by rw[kA];cases i;cases j;simp
section
variable {X:Cx}{a b c:Expr}{ta tb tc:TE}{pos:Pos}
theorem jB{pins:List (BQ×BZ)}{σ:St}{H:Hp}{s:BP}{Q:VK}{k k':Bool}(I:Inv X pins σ H s)(q:Q (.bl k) H)(e:k=k'):EP X pins σ Q (.bool k') s:=by subst e;exact⟨.bl k,H,I,rfl,q⟩
theorem aLl:OpR X (AZ .Eq) rEq:=by
 intro pins s σ H x y v u Q I rx ry h;obtain⟨hs,q⟩:=h;cases x with
 |non=>
  cases rx;cases y with
  |non=>cases ry;exact PySem.EqNone.eq_none_none (jB I q (by simp))
  |bl j=>cases ry;exact PySem.EqNone.eq_none_bool (jB I q (by simp))
  |int j=>obtain⟨t',rfl⟩:=ry;exact PySem.EqNone.eq_none_int (jB I q (by simp))
  |str j=>obtain⟨t',rfl⟩:=ry;exact PySem.EqNone.eq_none_str (jB I q (by simp))
  |_=>exact absurd (show false=true from hs) bN
 |bl i=>
  cases rx;cases y with
  |non=>cases ry;exact PySem.EqNone.eq_bool_none (jB I q (by simp))
  |bl j=>cases ry;exact eq_bool (jB I q aMw)
  |str j=>obtain⟨t',rfl⟩:=ry;exact PySem.EqMixed.eq_bool_str (jB I q (by simp))
  |_=>exact absurd (show false=true from hs) bN
 |int i=>
  obtain⟨t,rfl⟩:=rx;cases y with
  |non=>cases ry;exact PySem.EqNone.eq_int_none (jB I q (by simp))
  |int j=>obtain⟨t',rfl⟩:=ry;exact eq_int (jB I q aAw)
  |str j=>obtain⟨t',rfl⟩:=ry;exact PySem.EqMixed.eq_int_str (jB I q (by simp))
  |_=>exact absurd (show false=true from hs) bN
 |str i=>
  obtain⟨t,rfl⟩:=rx;cases y with
  |non=>cases ry;exact PySem.EqNone.eq_str_none (jB I q (by simp))
  |bl j=>cases ry;exact PySem.EqMixed.eq_str_bool (jB I q (by simp))
  |int j=>obtain⟨t',rfl⟩:=ry;exact PySem.EqMixed.eq_str_int (jB I q (by simp))
  |str j=>obtain⟨t',rfl⟩:=ry;exact eq_str (jB I q aJq)
  |_=>exact absurd (show false=true from hs) bN
 |byt i=>
  obtain⟨t,rfl⟩:=rx;cases y with
  |byt j=>obtain⟨t',rfl⟩:=ry;exact PySem.W.eq_bytes (jB I q aKk)
  |_=>exact absurd (show false=true from hs) bN
 |_=>cases y<;>exact absurd (show false=true from hs) bN
theorem aFw:OpR X (AZ .Lt) (rI0 λi j=>.bl (decide (i<j))):=aNi λ_ _ _ _ _ _ _ q=>lt_int q
theorem aOc:OpR X (AZ .LtE) (rI0 λi j=>.bl (decide (i<=j))):=aNi λ_ _ _ _ _ _ _ q=>le_int q
theorem aFC:OpR X (AZ .Gt) (rI0 λi j=>.bl (decide (j<i))):=aNi λ_ _ _ _ _ _ _ q=>gt_int q
theorem aOy:OpR X (AZ .GtE) (rI0 λi j=>.bl (decide (j<=i))):=aNi λ_ _ _ _ _ _ _ q=>ge_int q
theorem aHy:OpR X (AZ .Is) (λx y H Q=>y=.non/\Q (.bl (decide (x=.non))) H):=by
 intro pins s σ H x y v u Q I rx ry h;obtain⟨rfl,q⟩:=h;cases ry;refine is_none_gen (jB I q ?_)
 cases x<;>first
  |(cases rx;rfl)
  |(obtain⟨t,rfl⟩:=rx;rfl)
theorem aIU:OpR X (AZ .IsNot) (λx y H Q=>y=.non/\Q (.bl (!decide (x=.non))) H):=by
 intro pins s σ H x y v u Q I rx ry h;obtain⟨rfl,q⟩:=h;cases ry;refine isnot_none_gen (jB I q ?_)
 cases x<;>first
  |(cases rx;rfl)
  |(obtain⟨t,rfl⟩:=rx;rfl)
theorem OpR.or{f:BO->BO->Sem BO}{r r':R2}(h:OpR X f r)(h':OpR X f r'):OpR X f (λx y H Q=>r x y H Q\/r' x y H Q):=by
 intro pins s σ H x y v u Q I rx ry q
 rcases q with q|q
 ·exact h pins s σ H x y v u Q I rx ry q
 ·exact h' pins s σ H x y v u Q I rx ry q
theorem jC(b:Expr){op:CmpOp}(h:op≠ .In:=by decide)(h2:op≠ .NotIn:=by decide):Ag op b=false:=by
 have e1:(op==CmpOp.In)=false:=by cases op<;>first|rfl|exact absurd rfl h
 have e2:(op==CmpOp.NotIn)=false:=by cases op<;>first|rfl|exact absurd rfl h2
 cases b<;>simp[Ag,e1,e2]
theorem aJk{op:CmpOp}{r:R2}(ho:OpR X (AZ op) r)(ha:PE X a ta)(hb:PE X b tb)(hm:Ag op b=false):PE X (.Compare a [op] [b] pos) (tOp r ta tb):=by intro pins s σ H Q I h;exact wpAny_Compare1 (aNz ha hb I h λv u s2 x y H2 I2 rx ry q=>ho pins s2 σ H2 x y v u Q I2 rx ry q) hm
noncomputable def aOk(t:TE):TT:=λσ H Q=>t σ H λx H'=>∃k,x=.bl k/\Q k H'
theorem aAr{op:CmpOp}{r:R2}(ho:OpR X (AZ op) r)(ha:PE X a ta)(hb:PE X b tb)(hm:Ag op b=false):PT X (.Compare a [op] [b] pos) (aOk (tOp r ta tb)):=by
 intro pins s σ H Q I h
 refine wpAny_isTrue_Compare1 (thn (ha pins s σ H _ I h) λv s1 ⟨x,H1,I1,r1,q1⟩=>thn (hb pins s1 σ H1 _ I1 q1) λu s2 ⟨y,H2,I2,r2,q2⟩=>thn (ho pins s2 σ H2 x y v u _ I2 r1 r2 q2) λc s3 ⟨z,H3,I3,r3,k,e,q3⟩=> ?_) hm
 subst e;cases r3;exact wpAny_truthy_bool ⟨H3,I3,q3⟩
theorem aCS:(AM:Nat)<2^63:=by rw[Ac];decide
theorem pA{x:V}{us:List BO}(r:Vals [x] us):∃u,us=[u]/\RelV x u:=by
 cases r with
 |cons r1 r2=>cases r2;exact⟨_,rfl,r1⟩
theorem aOn{x y:V}{us:List BO}(r:Vals [x,y] us):∃u w',us=[u,w']/\RelV x u/\RelV y w':=by
 cases r with
 |cons r1 r2=>
  cases r2 with
  |cons r3 r4=>cases r4;exact⟨_,_,rfl,r1,r3⟩
end
structure ObjM(h:BS)(x dx C:BQ)(mA:Str->Option BO):Prop where
 obj:h.get? x=some (uH C dx)
 ns:h.Ns1 dx mA
 ne:dx≠x
theorem aEB{h:BS}{dx:BQ}{mA:Str->Option BO}(n:h.Ns1 dx mA):∃od,h.get? dx=some od/\∀name,xK name od=some (mA name):=by
 obtain⟨o,es,ep,ho,hd,hk,_,hm⟩:=n;refine⟨o,ho,λname=> ?_⟩;have e:=hm name;unfold nsFind findBy at e;rw[<-Array.find?_toList] at e;unfold xK;rw[hd];dsimp only
 split
 ·rename_i y q;rw[q] at e;exact congrArg some e
 ·rename_i q;rw[q] at e
  have a:es.toList.any (·.refKey)=false:=by rw[aIg];intro y hy;obtain⟨z,t,hkey⟩:=hk y (pW.mp hy);simp[DictEntry.refKey,hkey]
  have a':¬ es.toList.any (·.refKey)=true:=by rw[a];exact bN
  rw[if_neg a'];exact congrArg some e
theorem ObjM.look{h:BS}{x dx C:BQ}{mA:Str->Option BO}(I:ObjM h x dx C mA):∃od,PySem.W.InstAt h x (uH C dx) C (some od)/\∀name,xK name od=some (mA name):=
 let ⟨od,ho,hl⟩:=aEB I.ns
 ⟨od,⟨I.obj,rfl,rfl,ho⟩,hl⟩
theorem RelO.some_of{v:V}{o:Option BO}(r:RelO (some v) o):∃u,o=some u/\RelV v u:=by
 cases o with
 |none=>exact(show False from r).elim
 |some u=>exact⟨u,rfl,r⟩
section
variable {P:AG}{w:AL}{H H':Hp}{h h':BS}{a C dx:BQ}{fs fs':List (Str×V)}
theorem aJD(hok:HOk P w H h)(e:H a=some (.ins C dx fs)):∃mA,ObjM h a dx C mA/\(∀f,RelO (fs.lookup f) (mA f))/\PySem.Within mA (fs.map (·.1))/\fs.length<=1000/\H dx=some (.own a):=by obtain⟨d,z,ne,ob,mA,n,r,q⟩:=(show ObjOk P w H h a (.ins C dx fs) from hok a _ e);exact⟨mA,⟨ob,n,ne⟩,r,q,z,d⟩
end
structure Cls(K:aA)(C:BQ):Prop where
 pg:aFq K C Str.empty=true
 hd:PySem.W.hasDictIn K C=true
 po:PySem.W.plainOver K C=true
 sa:lX K (.ref C) "__setattr__"=some (some (.builtin "object.__setattr__"))
theorem Cls.get{K:aA}{C:BQ}(c:Cls K C)(f:Str):aFq K C f=true:=c.pg
structure Con(K:aA)(C:BQ)(f:Str)(v:V)(u:BO):Prop where
 at_:lX K (.ref C) f=some (some u)
 rel:RelV v u
 get:aFf K u "__get__"=some none
 cp:PySem.W.copiedNames.contains f=false
structure Meth(K:aA)(C:BQ)(m:Str)(f:BQ):Prop where
 at_:lX K (.ref C) m=some (some (.ref f))
 fn:aKM K (.ref f)=true
 kp:eE K (.ref f)=true
section
variable {X:Cx}{pins:List (BQ×BZ)}{σ:St}{H:Hp}{s:BP}{A:BR}{E:BO->BP->Prop}{Q:BO->BP->Prop}{c:BO}{b:Bool}
inductive rN(K:aA)(H:Hp):V->BO->Prop where
 |non:rN K H .non (.type "NoneType")
 |bl (x:Bool):rN K H (.bl x) (.type "bool")
 |int (i:Int):rN K H (.int i) (.type "int")
 |str (x:Str):rN K H (.str x) (.type "str")
 |flt (x:UInt64):rN K H (.flt x) (.type "float")
 |lst {a:BQ}{xs:List V} (e:H a=some (.lst xs)):rN K H (.ref a) (.type "list")
 |frz {a:BQ}{o:BZ}{xs:List V} (e:H a=some (.frz o (.lst xs))):rN K H (.ref a) (.type "list")
 |tup {a:BQ}{xs:List V} (e:H a=some (.tup xs)):rN K H (.ref a) (.type "tuple")
 |dK {a:BQ}{kvs:List (Key×V)} (e:Rd H a (.dK kvs)):rN K H (.ref a) (.type "dict")
 |dT {a:BQ}{kvs:List (List Key×V)} (e:H a=some (.dT kvs)):rN K H (.ref a) (.type "dict")
 |ins {a C dx:BQ}{fs:List (Str×V)} (e:H a=some (.ins C dx fs)) (cl:Cls K C) (ha:lX K (.ref C) "__class__"=some (some (.builtin "object.__class__")))
   (hn:aFf K (.builtin "object.__class__") "__get__"=some (some (.builtin "getset_descriptor.__get__"))) (htk:PySem.W.takesIn K (.builtin "object.__class__")=some true)
   (hm:PySem.W.mroIn K C (.type "object")=some true):rN K H (.ref a) (.ref C)
theorem aES{x:V}{u t:BO}(I:Inv X pins σ H s)(rx:RelV x u)(ty:rN X.K H x t)(e:fQ X.K t c=some b)(h:∀tk,Q (.bool b) {s with toks:=tk}):
  AH (AE X.prog X.w) A (call (.builtin "isinstance") [u,c]) Q E s:=by
 cases ty with
 |non=>cases(show u=Value.none from rx);exact fE PySem.W.kitx_none I.kIn True.intro e (λz=>nomatch z) h
 |bl y=>cases(show u=Value.bool y from rx);exact fE PySem.W.kitx_bool I.kIn True.intro e (λz=>nomatch z) h
 |int i=>obtain⟨t,q⟩:=(show ∃t,u=Value.int i t from rx);cases q;exact fE PySem.W.kitx_int I.kIn True.intro e (λz=>nomatch z) h
 |str y=>obtain⟨t,q⟩:=(show ∃t,u=Value.str y t from rx);cases q;exact fE PySem.W.kitx_str I.kIn True.intro e (λz=>nomatch z) h
 |flt y=>obtain⟨t,q⟩:=(show ∃t,u=Value.float y t from rx);cases q;exact fE PySem.W.kitx_float I.kIn True.intro e (λz=>nomatch z) h
 |@lst a xs ea=>cases(show u=Value.ref a from rx);obtain⟨_,_,n,_,h1⟩:=(show ObjOk X.prog X.w H s.heap a (.lst xs) from I.hok a _ ea);exact fE aFg I.kIn ⟨_,h1,rfl⟩ e (λz=>nomatch z) h
 |@frz a ob xs ea=>cases(show u=Value.ref a from rx);obtain⟨_,_,_,n,_,h1⟩:=(show ObjOk X.prog X.w H s.heap a (.frz ob (.lst xs)) from I.hok a _ ea);exact fE aFg I.kIn ⟨_,h1,rfl⟩ e (λz=>nomatch z) h
 |@tup a xs ea=>cases(show u=Value.ref a from rx);obtain⟨_,_,_,p⟩:=(show ObjOk X.prog X.w H s.heap a (.tup xs) from I.hok a _ ea);obtain⟨o,h1,h2,_⟩:=p;exact fE PySem.W.kitx_tuple I.kIn ⟨o,h1,h2⟩ e (λz=>nomatch z) h
 |@dK a kvs ea=>cases(show u=Value.ref a from rx);obtain⟨_,_,vs,_,p⟩:=(show ObjOk X.prog X.w H s.heap a (.dK kvs) from ea.ok I.hok);obtain⟨o,es,ep,h1,h2,_⟩:=p;exact fE aFh I.kIn ⟨o,h1,h2.1⟩ e (λz=>nomatch z) h
 |@dT a kvs ea=>cases(show u=Value.ref a from rx);obtain⟨_,_,xs,_,o,es,ep,h1,h2,_⟩:=(show ObjOk X.prog X.w H s.heap a (.dT kvs) from I.hok a _ ea);exact fE aFh I.kIn ⟨o,h1,h2.1⟩ e (λz=>nomatch z) h
 |@ins a C dx fs ea cl ha hn htk hm=>cases(show u=Value.ref a from rx);obtain⟨mA,O,_⟩:=aJD I.hok ea;obtain⟨od,J,_⟩:=O.look;exact fE (PySem.W.kitx_own (cl.get _) cl.hd ha hn htk hm) I.kIn J e (λz=>nomatch z) h
end
structure Room(k:Nat)(A:BR):Prop where
 hd:A.handled=none
 dp:A.depth+3*k+5<recursionLimit
 un:A.units+16*k+200<AQ
 gd:A.guards=some []
theorem Room.mono{j k:Nat}{A:BR}(r:Room k A)(h:j<=k):Room j A:=⟨r.hd,by have:=r.dp;omega,by have:=r.un;omega,r.gd⟩
theorem Room.deeper{k:Nat}{A:BR}(r:Room (k+1) A)(env:Env):Room k (A.deeper env):=
 ⟨r.hd,by have:=r.dp;show A.depth+1+3*k+5<_;omega,by have:=r.un;show A.units+3+16*k+200<_;omega,r.gd⟩
theorem Room.depth{k:Nat}{A:BR}(r:Room k A):A.depth<recursionLimit:=by have:=r.dp;omega
noncomputable def aFr:TA:=λ_ H Q=>Q [] H
noncomputable def oW(ta:TE)(tr:TA):TA:=λσ H Q=>ta σ H λx H1=>tr σ H1 λxs H2=>Q (x::xs) H2
section
variable {X:Cx}{e:Expr}{es:List Expr}{te:TE}{t:TA}{pos:Pos}
theorem pa_nil:PA X [] aFr:=λ_ _ _ _ H Q I h=>Calls.spliced_nil ⟨[],H,I,.nil,h⟩
theorem fP(ha:PE X e te)(hr:PA X es t)(hs:AD (e::es) X.env=(false,eval e X.env)::AD es X.env:=by rfl):PA X (e::es) (oW te t):=by intro pos pins s σ H Q I h;rw[hs];show AH _ _ (spliced ((false,eval e X.env)::Aw pos (AD es X.env))) _ _ s;refine Calls.spliced_cons (thn (ha pins s σ H _ I h) λu s1 ⟨x,H1,I1,r1,q1⟩=> ?_);exact thn (hr pos pins s1 σ H1 _ I1 q1) λus s2 ⟨xs,H2,I2,r2,q2⟩=>⟨x::xs,H2,I2,.cons r1 r2,q2⟩
noncomputable def aPm(t:TA):TE:=λσ H Q=>t σ H λxs H1=>xs.length<=AM/\∀p,H1 p=none->Q (.ref p) (upd H1 p (.tup xs))
noncomputable def tLst(t:TA):TE:=λσ H Q=>t σ H λxs H1=>xs.length<=AM/\∀p,H1 p=none->Q (.ref p) (upd H1 p (.lst xs))
theorem zR{x1}(h:PA X es t):PE X (.Tuple es x1 pos) (aPm t):=by intro pins s σ H Q I hq;refine wpAny_Tuple_spliced (thn (h pos pins s σ H _ I hq) λus s1 ⟨xs,H1,I1,r,z,q⟩=>⟨by rw[<-r.length];exact z, ?_⟩);have hf:H1 s1.heap.objs.size=none:=I1.hok.fresh (aM _);refine⟨.ref s1.heap.objs.size,upd H1 s1.heap.objs.size (.tup xs),I1.laid (t':=s1.toks) (λb u e=>aD _ e) (aM _) ?_,rfl,q _ hf⟩;exact⟨z,us,r,IsTupD.new _ _⟩
theorem aMY(h:PA X es t):PE X (.List es pos) (tLst t):=by intro pins s σ H Q I hq;refine wpAny_List_spliced (thn (h pos pins s σ H _ I hq) λus s1 ⟨xs,H1,I1,r,z,q⟩=>⟨by rw[<-r.length];exact z, ?_⟩);have hf:H1 s1.heap.objs.size=none:=I1.hok.fresh (aM _);refine⟨.ref s1.heap.objs.size,upd H1 s1.heap.objs.size (.lst xs),I1.laid (t':=s1.toks) (λb u e=>aD _ e) (aM _) ?_,rfl,q _ hf⟩;exact⟨z,us,0,r,aZ _ rfl⟩
end
noncomputable abbrev Sp:=List V->Hp->VK->XK->Prop
noncomputable abbrev CXT:=List Env->Hp->BP->XK->BO->BP->Prop
structure aKC(P:AG)(w:AL)(K:aA)(mg:Str->Option BO)(base:BS)(A:BR)(outer:List Env)(s:BP)(H:Hp):Prop where
 frames:A.frames=some outer
 mod:Mod K mg base
 bs:∀b o,base.get? b=some o->s.heap.get? b=some o/\H b=none
 bsz:base.objs.size<=s.heap.objs.size
 funs:s.heap.FunFrames base outer
 frf:∀b∈frs outer,H b=none
 hok:HOk P w H s.heap
 bare:AllBare s.gens
def CE(outer:List Env)(P:AG)(w:AL)(H:Hp)(s:BP)(Q:VK)(u:BO)(s':BP):Prop:=
 ∃v H',s'.os=s.os/\AllBare s'.gens/\Un (frs outer) [] H H' s.heap s'.heap/\HOk P w H' s'.heap/\RelV v u/\Q v H'
def CR(CX:CXT)(outer:List Env)(P:AG)(w:AL)(H:Hp)(s:BP)(Q:VK)(E:XK)(r:Result)(s':BP):Prop:=
 match r with
 |.ok (.ret u)=>CE outer P w H s Q u s'
 |.ok _=>False
 |.error e=>CX outer H s E e s'
structure FnOk(P:AG)(w:AL)(K:aA)(mg:Str->Option BO)(base:BS)(CX:CXT)(k:Nat)(f:BQ)(fd:AY)(ps:List Str)(sp:Sp):Prop where
 len:∀vs H Q E,sp vs H Q E->vs.length=ps.length
 run:∀ (A:BR) (outer:List Env) (s:BP) (H:Hp) (args:Args) (us:List BO) (vs:List V) (Q:VK) (E:XK),Room k A->aKC P w K mg base A outer s H->BindsTo s fd args (ps.zip us)->Vals vs us->sp vs H Q E->
  codeAny (AE P w) A (.call (.ref f) args) (CR CX outer P w H s Q E) s
section
variable {X:Cx}{pins:List (BQ×BZ)}{σ:St}{H:Hp}{s s':BP}
theorem Inv.env0(I:Inv X pins σ H s):aKC X.prog X.w X.K X.mg X.base X.A X.stack s H:=
 ⟨I.ok.frames,I.ok.mod,I.bs,cO I.ok.bsz I.sz,I.stack,I.stkFree,I.hok,I.bare⟩
theorem Inv.after{Q:VK}{u:BO}(I:Inv X pins σ H s)(h:CE X.stack X.prog X.w H s Q u s'):EP X pins σ Q u s':=by obtain⟨v,H',os,bare,un,hok,r,q⟩:=h;obtain⟨hh,g,d,t,os'⟩:=s';obtain rfl:os'=s.os:=os;exact⟨v,H',I.call (h':=hh) (g':=g) (d':=d) (t':=t) (ch:=[]) un hok bare (λb z=>absurd z (by simp)),r,q⟩
end
noncomputable def aOo(sp:Sp)(dvs:List V)(E:XK)(t:TA):TE:=λσ H Q=>t σ H λvs H1=>sp (vs++dvs) H1 Q E
def Binds(K:aA)(fd:AY)(ps:List Str)(ds:List BO):Prop:=
 ∀ (s:BP) (us:List BO),K.In s.heap->(us++ds).length=ps.length->BindsTo s fd ⟨us,[]⟩ (ps.zip (us++ds))
theorem Binds.all{K:aA}{fd:AY}{ps:List Str}(h:∀us:List BO,us.length=ps.length->bindArgs fd ⟨us,[]⟩=pure (ps.zip us)):Binds K fd ps []:=λs us _ hl=>by rw[dM] at hl ⊢;exact .of_eq (h us hl)
def aCJ(CX:CXT)(X:Cx)(E:XK):Prop:=∀ (pins:List (BQ×BZ)) (σ:St) (H:Hp) (s:BP) (e:BO) (s':BP),Inv X pins σ H s->CX X.stack H s E e s'->X.xe e s'
section
variable {X:Cx}{CX:CXT}{k:Nat}{f C:BQ}{fd:AY}{ps:List Str}{sp:Sp}{dvs:List V}{ds:List BO}{E:XK}{x m:Str}{p pos apos:Pos}{e o:Expr}{es:List Expr}{ta:TE}{t:TA}
theorem aMN{pins:List (BQ×BZ)}{σ:St}{H:Hp}{s:BP}{Q:VK}{us:List BO}{vs:List V}(F:FnOk X.prog X.w X.K X.mg X.base CX k f fd ps sp)(hr:Room k X.A)(hb:Binds X.K fd ps ds)(hd:Vals dvs ds)(hx:aCJ CX X E)
  (I:Inv X pins σ H s) (r:Vals vs us) (h:sp (vs++dvs) H Q E):AH (AE X.prog X.w) X.A (call (.ref f) us) (EP X pins σ Q) X.xe s:=by
 have r2:Vals (vs++dvs) (us++ds):=r.append hd;have hl:(us++ds).length=ps.length:=by rw[<-r2.length];exact F.len _ _ _ _ h
 refine wpAny_call (BB (F.run X.A X.stack s H ⟨us,[]⟩ (us++ds) (vs++dvs) Q E hr I.env0 (hb s us I.kIn hl) r2 h) λr s' hq=> ?_);cases r with
 |error e=>exact hx pins σ H s e s' I hq
 |ok fl=>
  cases fl with
  |ret u=>exact I.after hq
  |next=>exact False.elim hq
  |brk=>exact False.elim hq
  |cont=>exact False.elim hq
theorem aCT(F:FnOk X.prog X.w X.K X.mg X.base CX k f fd ps sp)(hr:Room k X.A)(hg:Gl X x)(hm:X.mg x=some (.ref f))(hk:eE X.K (.ref f)=true)(hb:Binds X.K fd ps ds)(hd:Vals dvs ds)(hx:aCJ CX X E)
  (ha:PA X (e::es) t) (hdb:(x==("__debug__":Str))=false:=by decide) (he:AD (e::es) X.env=(false,eval e X.env)::AD es X.env:=by rfl) (hpl:(Aw pos (AD es X.env)).any (·.1)=false:=by rfl):
  PE X (.Call (.Name x p) (e::es) [] pos) (aOo sp dvs E t):=by
 intro pins s σ H Q I h;refine Af (aDx I hg hm ?_ hdb);refine PySem.W.callWith_K (h₀:=X.base) I.ok.mod.kin hk (thn (ha pos pins s σ H _ I h) λus s1 ⟨vs,H1,I1,r,q⟩=>⟨I1.kIn, ?_⟩) he hpl;exact aMN F hr hb hd hx I1 r q
structure Mk(K:aA)(C f:BQ):Prop where
 makes:PySem.W.makesIn K C=true
 init:lX K (.ref C) "__init__"=some (some (.ref f))
 fn:aKM K (.ref f)=true
 kp:eE K (.ref C)=true
end
section
variable {X:Cx}{CX:CXT}{k:Nat}{f C:BQ}{fd:AY}{ps ks:List Str}{sp:Sp}{E:XK}{x m:Str}{p pos apos kpos:Pos}{e o:Expr}{es:List Expr}{kws:List Keyword}{te ta:TE}{t tk:TA}{nm:Option Str}
structure aPp(K:aA)(fd:AY)(ps ks:List Str)(g:List BO->List BO->List BO)(gV:List V->List V->List V):Prop where
 to:∀ (s:BP) (us ws:List BO),K.In s.heap->(g us ws).length=ps.length->BindsTo s fd ⟨us,ks.zip ws⟩ (ps.zip (g us ws))
 rel:∀ {vs:List V}{us:List BO}{zs:List V}{ws:List BO},Vals vs us->Vals zs ws->Vals (gV vs zs) (g us ws)
variable {g:List BO->List BO->List BO}{gV:List V->List V->List V}
end
structure pH(N P:List Str)(sc:Scope):Prop where
 kind:sc.kind=.function
 co:sc.isCoroutine=false
 gen:sc.isGenerator=false
 nd:N.Nodup
 pre:N.take P.length=P
 par:∀x∈P,sc.names.lookup x=some .local\/sc.names.lookup x=some .cell
 nofree:∀y∈sc.names,y.2≠ .free
theorem yX{kindOf:Str->Option NameKind}{x:Str}:∀ {binds:List (Str×BO)}{m:Str->Option BO},(∀v,(x,v)∉binds)->bindL kindOf binds m x=m x
 |[],_,_=>rfl
 |(n,v)::r,m,h=>by
  unfold bindL;rw[yX λw hw=>h w (aI _ hw)]
  split
  ·have:x≠n:=by rintro rfl;exact h v aH
   simp[this]
  ·rfl
theorem yU{kindOf:Str->Option NameKind}{x:Str}:∀ {binds:List (Str×BO)}{m:Str->Option BO},(∀v,(x,v)∉binds)->bindC kindOf binds m x=m x
 |[],_,_=>rfl
 |(n,v)::r,m,h=>by
  unfold bindC;rw[yU λw hw=>h w (aI _ hw)]
  split
  ·rfl
  ·have:x≠n:=by rintro rfl;exact h v aH
   simp[this]
theorem yC{kindOf:Str->Option NameKind}{x:Str}{v:BO}:∀ {P:List Str}{vs:List BO}{i:Nat}{m:Str->Option BO},P.Nodup->P[i]? =some x->vs[i]? =some v->kindOf x=some .local->
  bindL kindOf (P.zip vs) m x=some v
 |[],_,_,_,_,h,_,_=>by simp at h
 |_::_,[],_,_,_,_,h,_=>by simp at h
 |p::P,w::vs,0,m,nd,h1,h2,hk=>by simp at h1 h2;subst h1;subst h2;show bindL kindOf ((p,w)::P.zip vs) m p=_;unfold bindL;rw[yX λv hv=>(cF.mp nd).1 (xL hv).1,if_pos hk];simp
 |p::P,w::vs,i+1,m,nd,h1,h2,hk=>by show bindL kindOf ((p,w)::P.zip vs) m x=_;unfold bindL;exact yC (i:=i) (cF.mp nd).2 (by simpa using h1) (by simpa using h2) hk
theorem yQ{kindOf:Str->Option NameKind}{x:Str}{v:BO}:∀ {P:List Str}{vs:List BO}{i:Nat}{m:Str->Option BO},P.Nodup->P[i]? =some x->vs[i]? =some v->kindOf x≠some .local->
  bindC kindOf (P.zip vs) m x=some v
 |[],_,_,_,_,h,_,_=>by simp at h
 |_::_,[],_,_,_,_,h,_=>by simp at h
 |p::P,w::vs,0,m,nd,h1,h2,hk=>by simp at h1 h2;subst h1;subst h2;show bindC kindOf ((p,w)::P.zip vs) m p=_;unfold bindC;rw[yU λv hv=>(cF.mp nd).1 (xL hv).1,if_neg hk];simp
 |p::P,w::vs,i+1,m,nd,h1,h2,hk=>by show bindC kindOf ((p,w)::P.zip vs) m x=_;unfold bindC;exact yQ (i:=i) (cF.mp nd).2 (by simpa using h1) (by simpa using h2) hk
noncomputable def start(N:List Str)(vs:List V):St:=vs.map some++gI (N.length-vs.length) none
noncomputable def oS(CX:CXT)(P:AG)(w:AL)(K:aA)(mg:Str->Option BO)(base:BS)(N:List Str)(qual:Str)(scope:Scope)(f:BQ)(cd:BO)(A:BR)(outer:List Env)(s:BP)(H:Hp)(E:XK):Cx where
 prog:=P
 w:=w
 K:=K
 mg:=mg
 base:=base
 A:=A.deeper (Aj qual scope s.heap.objs.size f cd)
 N:=N
 s₀:=s
 H₀:=H
 env:=Aj qual scope s.heap.objs.size f cd
 outer:=outer
 stack:=Aj qual scope s.heap.objs.size f cd::outer
 ex:=[]
 calm:=true
 fn:=λ_=>true
 pn:=[]
 xe:=λe s'=>AH (AE P w) (A.deeper (Aj qual scope s.heap.objs.size f cd)) (leaving (Aj qual scope s.heap.objs.size f cd) e) (λ_ s''=>CX outer H s E e s'') (λe' s''=>CX outer H s E e' s'') s'
theorem aBa{sc:Scope}{n:Nat}{x:Str}(h:sc.names.lookup x=some .cell):∃c,(cellsFrom n sc.names []).lookup x=some c:=by have q:=aAk sc.names n [] (.inl h);exact Option.isSome_iff_exists.mp q
theorem aEu{CX:CXT}{P:AG}{w:AL}{K:aA}{mg:Str->Option BO}{base:BS}{N ps:List Str}{qual:Str}{scope:Scope}{f:BQ}{cd:BO}{A:BR}{outer:List Env}{s s1:BP}{H:Hp}{E:XK}{us:List BO}{vs:List V}
  (S:pH N ps scope) (hd:A.handled=none) (e0:aKC P w K mg base A outer s H) (hl:vs.length=ps.length) (r:Vals vs us)
  (x:InCallC s s.heap.objs.size (bindL (Aj qual scope s.heap.objs.size f cd).kindOf (ps.zip us) λ_=>none) (cellsFrom (s.heap.objs.size+1) scope.names []) (bindC (Aj qual scope s.heap.objs.size f cd).kindOf (ps.zip us) λ_=>none) s1):
  Inv (oS CX P w K mg base N qual scope f cd A outer s H E) [] (start N vs) H s1:=by
 have hpl:ps.length<=N.length:=by have:=congrArg xG S.pre;rw[cT] at this;omega
 obtain⟨h1,tk,rfl,hk⟩:=x.done;have noA:∀b:BQ,b∉(oS CX P w K mg base N qual scope f cd A outer s H E).ex:=λb z=>absurd (show b∈([]:List BQ) from z) (by simp)
 refine ⟨⟨e0.mod,S.kind,rfl,rfl,aM _,fun y z c h1 h2=> ?_,fun y hy=> ?_,fun y c _ h=> ?_,fun _=>hd,Around.frames_deeper e0.frames, .inr ⟨rfl,rfl⟩,fun b z=>absurd z (noA b),e0.bs,e0.bsz,fun b _ _=>noA b,fun b z=>absurd z (noA b),e0.funs,e0.frf⟩,
  rfl,e0.bare,Un.kept hk,⟨_,x.toInCall.ns,λi y v h1 h2 h3=> ?_⟩,λy c h=>⟨_,x.cell y c h⟩,e0.hok.fresh (aM _),λy c h=> ?_,λp hp=>absurd (show p∈([]:List (BQ×BZ)) from hp) (by simp),e0.hok.kept hk, ?_⟩
 ·exact name_of_addr x.apart (PySem.mem_of_lookup h1) (PySem.mem_of_lookup h2)
 ·have hy:scope.names.lookup y=some .cell\/scope.names.lookup y=some .free:=hy
  rcases hy with hy|hy
  ·exact aBa hy
  ·exact absurd rfl (S.nofree _ (PySem.mem_of_lookup hy))
 ·exact cW (x.above y c (PySem.mem_of_lookup h))
 ·have hi:i<vs.length:=by
   unfold start at h2
   by_cases hi:i<vs.length
   ·exact hi
   ·rw[fR (by simpa using hi)] at h2;rw[List.getElem?_replicate] at h2
    split at h2<;>cases h2
  have ha:vs[i]? =some v:=by
   unfold start at h2;rw[gA (by simpa using hi),bF] at h2;cases e:vs[i]? with
   |none=>rw[e] at h2;cases h2
   |some a=>rw[e] at h2;cases h2;rfl
  obtain⟨u,hu,rv⟩:=r.get ha
  have hp:ps[i]? =some y:=by rw[<-S.pre,aAM (by omega)];exact h1
  have ndP:ps.Nodup:=by rw[<-S.pre];exact S.nd.sublist (List.take_sublist _ _)
  refine⟨u,rv, ?_⟩
  rcases S.par y (bD hp) with k|k
  ·exact .inl ⟨k,yC ndP hp hu k⟩
  ·obtain⟨c,e⟩:=aBa (n:=s.heap.objs.size+1) k;refine .inr ⟨.inl k,c,e, ?_⟩;have q:=x.cell y c e;rw[yQ ndP hp hu (by show scope.names.lookup y≠_;rw[k];decide)] at q;exact q
 ·exact e0.hok.fresh (cW (x.above y c (PySem.mem_of_lookup h)))
 ·unfold start;show _=N.length;rw[bB,aB,List.length_replicate];omega
theorem aOd{CX:CXT}{P:AG}{w:AL}{K:aA}{mg:Str->Option BO}{base:BS}{k:Nat}{f:BQ}{name qual:Str}{params:Arguments}{body:List BU}{scope:Scope}{dV kV doc pm cdv ct oc:BO}{an od:Option BQ}
  {osl:Array (Option BO)}{N ps:List Str}{sp:Sp} (lk:K.lookup f=some ⟨oc,od,.func (gB name qual params body scope dV kV doc pm an cdv ct),osl⟩) (hcd:kF K cdv qual=true) (S:pH N ps scope)
  (len:∀vs H Q E,sp vs H Q E->vs.length=ps.length)
  (hbody:∀ (A:BR) (outer:List Env) (s:BP) (H:Hp) (vs:List V) (Q:VK) (E:XK),Room k (A.deeper (Aj qual scope s.heap.objs.size f cdv))→sp vs H Q E→
   ∃t,PSs (oS CX P w K mg base N qual scope f cdv A outer s H E) body t/\t {nx:=λ_ H'=>Q .non H',rt:=Q} (start N vs) H):
  FnOk P w K mg base CX (k+1) f (gB name qual params body scope dV kV doc pm an cdv ct) ps sp:=by
 refine⟨len,λA outer s H args us vs Q E hr e0 hb r hsp=> ?_⟩;have hl:=len _ _ _ _ hsp;have KX:K.In s.heap:=e0.mod.kin.keeps λb o e=>(e0.bs b o e).1
 have lim:s.heap.NoLimit:=e0.mod.nolimit.keeps λb o e=>(e0.bs b o e).1
 have hkind:∀y∈ps.zip us,scope.names.lookup y.1=some .local\/(scope.names.lookup y.1=some .cell/\((cellsFrom (s.heap.objs.size+1) scope.names []).lookup y.1).isSome=true):=λ⟨n,v⟩ hy=>by
  rcases S.par n (xL hy).1 with q|q
  ·exact .inl q
  ·exact .inr ⟨q,aAk _ _ _ (.inl q)⟩
 refine codeAny_call_function hr.depth (KX _ _ lk) rfl S.co S.gen rfl (PySem.W.codeRec_of KX hcd) (hb _ _ _ _ ?_);refine wpAny_newFunctionEnv_cells S.kind hkind λenv he s1 x=> ?_
 subst he;refine⟨lim.keeps x.toInCall.keep,codeAny_func ?_⟩;obtain⟨t,ht,hq⟩:=hbody A outer s H vs Q E (hr.deeper _) hsp;have I:Inv (oS CX P w K mg base N qual scope f cdv A outer s H E) [] (start N vs) H s1:=aEu S hr.hd e0 hl r x;refine Ah (ht [] s1 (start N vs) H _ I hq) (λfl s' hs=> ?_) λe s' hs=>hs
 have fin:∀ {σ':St}{H':Hp}{v:V}{u:BO},Inv (oS CX P w K mg base N qual scope f cdv A outer s H E) [] σ' H' s'->RelV v u->Q v H'->CE outer P w H s Q u s':=
  λ{σ' H' v u} J rv q=>⟨v,H',J.os,J.bare,J.base,J.hok,rv,q⟩
 cases fl with
 |ret u=>obtain⟨v,σ',H',J,rv,q⟩:=hs;exact fin J rv q
 |next=>obtain⟨σ',H',J,q⟩:=hs;exact fin (v:=V.non) (u:=Value.none) J rfl q
 |brk=>obtain⟨_,_,_,q⟩:=hs;exact False.elim q
 |cont=>obtain⟨_,_,_,q⟩:=hs;exact False.elim q
section
variable {X:Cx}{x:Str}{p pos:Pos}{e:Expr}{es:List Expr}{t:TA}{id T:String}{r:List V->Hp->VK->Prop}
noncomputable def tCB(r:List V->Hp->VK->Prop)(t:TA):TE:=λσ H Q=>t σ H λvs H1=>r vs H1 Q
theorem rB(hc:mH X (.builtin id) r)(hg:Gl X x)(hm:X.mg x=none)(hv:Aq x=some (.builtin id))(ha:PA X (e::es) t)(hn:x≠"__name__":=by decide)(hdb:(x==("__debug__":Str))=false:=by decide)
  (he:AD (e::es) X.env=(false,eval e X.env)::AD es X.env:=by rfl) (hpl:(Aw pos (AD es X.env)).any (·.1)=false:=by rfl):PE X (.Call (.Name x p) (e::es) [] pos) (tCB r t):=by
 intro pins s σ H Q I h;refine Af (lU I hg hm hv ?_ hn hdb);exact PyProof.Rows.callWith_builtin1 (thn (ha pos pins s σ H _ I h) λus s1 ⟨vs,H1,I1,r1,q1⟩=>hc pins s1 σ H1 vs us Q I1 r1 q1) he hpl
theorem aEq(hc:mH X (.type T) r)(hg:Gl X x)(hm:X.mg x=none)(hv:Aq x=some (.type T))(ha:PA X (e::es) t)(hn:x≠"__name__":=by decide)(hdb:(x==("__debug__":Str))=false:=by decide)
  (he:AD (e::es) X.env=(false,eval e X.env)::AD es X.env:=by rfl) (hpl:(Aw pos (AD es X.env)).any (·.1)=false:=by rfl):PE X (.Call (.Name x p) (e::es) [] pos) (tCB r t):=by
 intro pins s σ H Q I h;refine Af (lU I hg hm hv ?_ hn hdb);exact PyProof.Rows.callWith_type1 (thn (ha pos pins s σ H _ I h) λus s1 ⟨vs,H1,I1,r1,q1⟩=>hc pins s1 σ H1 vs us Q I1 r1 q1) he hpl
end
end L2
namespace HT
open PySem PyProof.Rows
noncomputable def lexLt:List Int->List Int->Bool
 |[],[]=>false
 |[],_::_=>true
 |_::_,[]=>false
 |x::xs,y::ys=>if x=y then lexLt xs ys else decide (x<y)
section
open PySem.SeqAt
open PySem.AutoSeq1 (wpAny_loadPart')
open PySem.MeetsSeq PySem.MeetsSeq2 PySem.MeetsSeq3
end
section
variable {prog:AG}{w:AL}{A:BR}{E:BO->BP->Prop}{s:BP}
theorem cat_tup{t b:BQ}{vs ws:List BO}{Q:BO->BP->Prop}(ht:IsTup s.heap t vs.toArray)(hb:IsTup s.heap b ws.toArray)(hv:vs≠[])
  (h1:ws=[]->Q (.ref t) s) (h2:ws≠[]->Q (.ref s.heap.objs.size) {s with heap:=s.heap.push {cls:=.type "tuple",data:=.seq (vs++ws).toArray}})
  (hsz:vs.length+ws.length<=AM):AH (AE prog w) A (Al .Add (.ref t) (.ref b)) Q E s:=by
 obtain⟨⟨cls,dd,data,sl⟩,ho,hc,n,hd⟩:=id ht;obtain⟨⟨cls2,dd2,data2,sl2⟩,ho2,hc2,n2,hd2⟩:=id hb;simp only at hc hd hc2 hd2;subst hc hd hc2 hd2;have e:vs.toArray++ws.toArray=(vs++ws).toArray:=by simp
 by_cases hw:ws=[]
 ·exact concat_meets ⟨_,ho,rfl⟩ ⟨_,ho2,rfl⟩ noFill_tuple_add seq_tuple_add oF nQ (mV _ _)
   (tuple_addW1 t b vs.toArray ws.toArray n n2 dd dd2 sl sl2 (by simpa using hv) (by simp[hw])) ⟨ho,ho2,h1 hw⟩
 ·refine concat_meets ⟨_,ho,rfl⟩ ⟨_,ho2,rfl⟩ noFill_tuple_add seq_tuple_add oF nQ (mV _ _)
   (tuple_addW2 t b vs.toArray ws.toArray n n2 dd dd2 sl sl2 (by simpa using hv) (by simpa using hw) (by rw[aW,aW];exact hsz)) ⟨ho,ho2, ?_⟩
  rw[e];exact h2 hw
noncomputable def sIx(n d:Nat):Option Int->Nat
 |none=>d
 |some v=>if v<0 then(v+(n:Int)).toNat else min v.toNat n
theorem sIx_none(n d:Nat):sIx n d none=d:=rfl
theorem sIx_nat(n d k:Nat):sIx n d (some (k:Int))=min k n:=by show(if(k:Int)<0 then((k:Int)+(n:Int)).toNat else min (k:Int).toNat n)=min k n;rw[if_neg (by omega),dE]
theorem aMc(n d:Nat)(hd:d<=n)(o:Option Int):sIx n d o<=n:=by
 cases o with
 |none=>exact hd
 |some v=>
  show(if v<0 then(v+(n:Int)).toNat else min v.toNat n)<=n
  by_cases hv:v<0
  ·rw[if_pos hv];omega
  ·rw[if_neg hv];exact Nat.min_le_right _ _
theorem aDi(v:Int)(n d:Nat):(if v<0 then max (v+(n:Int)) 0 else min v (n:Int))=((sIx n d (some v):Nat):Int):=by
 show(if v<0 then max (v+(n:Int)) 0 else min v (n:Int))=(((if v<0 then(v+(n:Int)).toNat else min v.toNat n):Nat):Int)
 by_cases hv:v<0
 ·simp only[if_pos hv];omega
 ·simp only[if_neg hv];omega
theorem aBR(lo hi:Option Int)(n:Nat):Builtin.Slice.sliceAdjust lo hi 1 (n:Int)=(((sIx n 0 lo:Nat):Int),((sIx n n hi:Nat):Int)):=by
 have h1:¬ ((1:Int)<0):=by omega
 unfold Builtin.Slice.sliceAdjust;simp only[h1,if_false];refine Prod.ext ?_ ?_
 ·cases lo with
  |none=>rfl
  |some v=>exact aDi v n 0
 ·cases hi with
  |none=>rfl
  |some v=>exact aDi v n n
theorem aBZ(i j:Nat):Builtin.Slice.slicePlaces (i:Int) (j:Int) 1=j-i:=by
 unfold Builtin.Slice.slicePlaces;have h1:(1:Int)>0:=by omega
 simp only[h1,if_true,Int.ediv_one]
 split<;>omega
theorem vN{v:BO}{o:Option Int}{Q:Option Int->BP->Prop}(p:IsPart v o)(h:Q o s):AH (AE prog w) A (Builtin.Slice.slicePartIndex v) Q E s:=by
 cases p with
 |none=>exact slicePart_none h
 |int i t=>exact slicePart_int h
theorem sP{sl:BQ}{vl vu:BO}{lo hi:Option Int}{n:Nat}{Q:Int×Int×Nat->BP->Prop}(hs:s.heap.IsSliceOf sl vl vu .none)(pl:IsPart vl lo)(pu:IsPart vu hi)
  (h:Q (((sIx n 0 lo:Nat):Int),1,sIx n n hi-sIx n 0 lo) s):AH (AE prog w) A (Builtin.Slice.sliceApplied (.ref sl) (pure (n:Int))) Q E s:=by
 obtain⟨os,hos,hcs,hds⟩:=id hs;unfold Builtin.Slice.sliceApplied Builtin.Slice.sliceFields;refine AA (AA (Ad hos hds (x:=vl) rfl (AA (Ad hos hds (x:=vu) rfl (AA (Ad hos hds (x:=.none) rfl (AB ?_)))))));refine AA (slicePart_none ?_);show AH _ _ (if((1:Int)==0)=true then _ else _) _ _ s;rw[if_neg (by decide)];refine AA (vN pl (AA (vN pu (AA (AB ?_)))));show AH _ _ (match Builtin.Slice.sliceAdjust lo hi 1 (n:Int) with|(lo,hi)=>pure (lo,(1:Int),Builtin.Slice.slicePlaces lo hi 1)) _ _ s;rw[aBR lo hi n];show AH _ _ (pure (((sIx n 0 lo:Nat):Int),(1:Int),Builtin.Slice.slicePlaces ((sIx n 0 lo:Nat):Int) ((sIx n n hi:Nat):Int) 1)) _ _ s;rw[aBZ];exact AB h
theorem aFV(xs:Array BO)(i k:Nat):((bK k).filterMap λ(m:Nat)=>xs[((i:Int)+(m:Int)*1).toNat]?).toArray=((xs.toList.drop i).take k).toArray:=by
 have e:(λ(m:Nat)=>xs[((i:Int)+(m:Int)*1).toNat]?)=λm=>xs[i+m]? :=by
  funext m;have:((i:Int)+(m:Int)*1).toNat=i+m:=by omega
  rw[this]
 rw[e];have:=pick_run xs i k;rw[List.filterMap_map] at this;have e2:((λx=>xs[x]?) ∘ λx=>i+x)=λm=>xs[i+m]? :=rfl
 rw[e2] at this;rw[this]
theorem getItem_tuple_cut{t sl:BQ}{items:Array BO}{vl vu:BO}{lo hi:Option Int}{Q:BO->BP->Prop}(ht:IsTup s.heap t items)(hs:s.heap.IsSliceOf sl vl vu .none)(pl:IsPart vl lo)(pu:IsPart vu hi)
  (hw:¬ (sIx items.size 0 lo=0/\sIx items.size items.size hi=items.size))
  (h:Q (.ref s.heap.objs.size) {s with heap:=s.heap.push {cls:=.type "tuple",data:=.seq ((items.toList.drop (sIx items.size 0 lo)).take (sIx items.size items.size hi-sIx items.size 0 lo)).toArray}})
  (hsz:items.size<=AM):AH (AE prog w) A (getItem (.ref t) (.ref sl)) Q E s:=by
 have htake:sizeOk (.seq ((items.toList.drop (sIx items.size 0 lo)).take (sIx items.size items.size hi-sIx items.size 0 lo)).toArray):=by show((items.toList.drop (sIx items.size 0 lo)).take (sIx items.size items.size hi-sIx items.size 0 lo)).toArray.size<=AM;rw[aW,cT,gW,cR];omega
 have hj:sIx items.size items.size hi<=items.size:=aMc _ _ (aM _) hi;obtain⟨os,hos,hcs,hds⟩:=id hs;have hTs:s.TypeIs (.ref sl) "slice":=⟨os,hos,hcs⟩;unfold getItem
 try with_reducible refine AV ?_
 first|refine AA (AB ?_)|skip
 refine AA (wpAny_sequenceKey ht.typeIs (by decide) ?_)
 refine AA (AS (name:=Str.ofString "__getitem__") ht.typeIs PyProof.Rows.slot_tuple_getitem
  (AT PyProof.Rows.slot_tuple_getitem ht.typeIs entry_tuple_getitem ?_ (args_tuple_getitem _ _)))
 show AH _ _ (Builtin.Tuple.tupleItemsOf (.ref t)>>=_) _ _ s;refine AA (tupleItemsOf_ ht ?_);refine AA (wpAny_typeOf hTs ?_);rw[if_pos (by decide)];refine AA (sP hs pl pu ?_)
 have hno:¬ ((((sIx items.size 0 lo:Nat):Int)==0&&(1:Int)==1&&(sIx items.size items.size hi-sIx items.size 0 lo)==items.size)=true):=by intro q;rw[bM,bM] at q;have q1:((sIx items.size 0 lo:Nat):Int)=0:=eq_of_beq q.1.1;have q2:sIx items.size items.size hi-sIx items.size 0 lo=items.size:=eq_of_beq q.2;exact hw ⟨by omega,by omega⟩
 show AH _ _ (if(((sIx items.size 0 lo:Nat):Int)==0&&(1:Int)==1&&(sIx items.size items.size hi-sIx items.size 0 lo)==items.size)=true then _ else _) _ _ s;rw[if_neg hno,aFV]
 first
  |exact AA (m:=Builtin.Tuple.tupleExact _) (AN (AB ⟨_,rfl,AB h⟩) htake)
  |exact AA (m:=Builtin.Tuple.tupleExact _) (AN (AA (AB (AB ⟨_,rfl,AB h⟩))) htake)
  |exact AA (AA (m:=Builtin.Tuple.tupleExact _) (AN (AB (AB ⟨_,rfl,AB h⟩)) htake))
  |exact AA (AA (m:=Builtin.Tuple.tupleExact _) (AN (AB ⟨_,rfl,AB h⟩) htake))
end
end HT
namespace L2
open PySem PySem.Spec PyProof.Rows
noncomputable abbrev TO:=St->Hp->(Option Int->Hp->Prop)->Prop
def PO(X:Cx)(e:Option Expr)(t:TO):Prop:=
 ∀ (pins:List (BQ×BZ)) (s:BP) (σ:St) (H:Hp) (Q:Option Int->Hp->Prop),Inv X pins σ H s->t σ H Q->
  AH (AE X.prog X.w) X.A (evalPart e X.env) (λu s'=>∃o H',Inv X pins σ H' s'/\IsPart u o/\Q o H') X.xe s
noncomputable def aJE:TO:=λ_ H Q=>Q none H
noncomputable def aOF(t:TE):TO:=λσ H Q=>t σ H λx H1=>∃i,x=.int i/\Q (some i) H1
section
variable {X:Cx}{e:Expr}{te:TE}{lo hi:Option Expr}{tl th:TO}{pos p2:Pos}
theorem aJF:PO X none aJE:=by intro pins s σ H Q I h;rw[evalPart_none];exact AB ⟨none,H,I,.none,h⟩
theorem aJY(h:PE X e te):PO X (some e) (aOF te):=by
 intro pins s σ H Q I hw;rw[evalPart_some];refine thn (h pins s σ H _ I hw) λu s1 ⟨x,H1,I1,r1,q1⟩=> ?_
 obtain⟨i,rfl,q⟩:=q1;obtain⟨t,rfl⟩:=r1;exact⟨some i,H1,I1,.int i t,q⟩
def SlR(X:Cx)(r:V->Option Int->Option Int->Hp->VK->Prop):Prop:=
 ∀ (pins:List (BQ×BZ)) (s:BP) (σ:St) (H:Hp) (x:V) (v vl vu:BO) (lo hi:Option Int) (sl:BQ) (Q:VK),Inv X pins σ H s->RelV x v->s.heap.IsSliceOf sl vl vu .none->IsPart vl lo->IsPart vu hi->r x lo hi H Q->
  ∃T id,typeLookup (.type T) "__getitem__"=pure (some (.builtin id))/\s.TypeIs v T/\AH (AE X.prog X.w) X.A (getItem v (.ref sl)) (EP X pins σ Q) X.xe s
noncomputable def tSl(r:V->Option Int->Option Int->Hp->VK->Prop)(te:TE)(tl th:TO):TE:=λσ H Q=>te σ H λx H1=>tl σ H1 λl H2=>th σ H2 λu H3=>r x l u H3 Q
theorem aBk{r:V->Option Int->Option Int->Hp->VK->Prop}(hr:SlR X r)(he:PE X e te)(hl:PO X lo tl)(hu:PO X hi th):PE X (.Subscript e (.Slice lo hi none p2) pos) (tSl r te tl th):=by
 intro pins s σ H Q I h;refine Subscript_ (thn (he pins s σ H _ I h) λv s1 ⟨x,H1,I1,r1,q1⟩=> ?_);refine wpAny_Slice (thn (hl pins s1 σ H1 _ I1 q1) λvl s2 ⟨l,H2,I2,pl,q2⟩=>thn (hu pins s2 σ H2 _ I2 q2) λvu s3 ⟨u,H3,I3,pu,q3⟩=> ?_);rw[evalPart_none];refine AB ?_;have I4:Inv X pins σ H3 {s3 with heap:=s3.heap.push {cls:=.type "slice",data:=.fields #[vl,vu,.none]}}:=I3.kept (t':=s3.toks) λb ob q=>aD _ q
 obtain⟨T,id,hT,ht,hg⟩:=hr pins {s3 with heap:=s3.heap.push {cls:=.type "slice",data:=.fields #[vl,vu,.none]}} σ H3 x v vl vu l u s3.heap.objs.size Q I4 r1 (Heap.IsSliceOf.new ..) pl pu q3;show AH (AE X.prog X.w) X.A (subscriptTail e (.Slice lo hi none p2) v (.ref s3.heap.objs.size)) (EP X pins σ Q) X.xe {s3 with heap:=s3.heap.push {cls:=.type "slice",data:=.fields #[vl,vu,.none]}};exact tail_any (ops:=[.ref s3.heap.objs.size,v]) ht hT hg (by with_unfolding_all rfl)
noncomputable def xR(xs:List V)(lo hi:Option Int):List V:=(xs.drop (HT.sIx xs.length 0 lo)).take (HT.sIx xs.length xs.length hi-HT.sIx xs.length 0 lo)
theorem tX(xs:List V)(lo hi:Option Int):(xR xs lo hi).length<=xs.length:=by unfold xR;rw[cT,gW];omega
def rSlT(K:aA):V->Option Int->Option Int->Hp->VK->Prop:=λx lo hi H Q=>∃a xs,x=.ref a/\SqT K H a xs/\
 ¬ (HT.sIx xs.length 0 lo=0/\HT.sIx xs.length xs.length hi=xs.length)/\∀p,H p=none->Q (.ref p) (upd H p (.tup (xR xs lo hi)))
theorem aMV:SlR X (rSlT X.K):=by
 intro pins s σ H x v vl vu lo hi sl Q I rx hs pl pu h;obtain⟨a,xs,rfl,hx,hw,q⟩:=h;cases rx;obtain⟨its,r,ht,hz⟩:=I.tuple hx;have hlen:its.toArray.size=xs.length:=by rw[aW];exact r.length.symm
 refine⟨"tuple",_,PyProof.Rows.slot_tuple_getitem.lookup,ht.typeIs, ?_⟩;refine HT.getItem_tuple_cut ht hs pl pu (by rw[hlen];exact hw) ?_ (by rw[hlen];exact hz);rw[hlen];refine⟨.ref s.heap.objs.size,_,I.laid (t':=s.toks) (o:=.tup (xR xs lo hi)) (λb ob q=>aD _ q) (aM _) ?_,rfl,q _ (I.hok.fresh (aM _))⟩;exact⟨cO (tX xs lo hi) hz,_,(r.drop (HT.sIx xs.length 0 lo)).take (HT.sIx xs.length xs.length hi-HT.sIx xs.length 0 lo),IsTupD.new _ _⟩
noncomputable def aOr(K:aA):R2:=λx y H Q=>∃a b xs ys,x=.ref a/\y=.ref b/\SqT K H a xs/\SqT K H b ys/\xs≠[]/\xs.length+ys.length<=AM/\
 (ys=[]->Q (.ref a) H)/\(ys≠[]->∀p,H p=none->Q (.ref p) (upd H p (.tup (xs++ys))))
theorem Vals.nil_iff{xs:List V}{us:List BO}(r:Vals xs us):us=[]↔xs=[]:=by
 cases r with
 |nil=>simp
 |cons _ _=>simp
theorem aJP:OpR X (Al .Add) (aOr X.K):=by intro pins s σ H x y v u Q I rx ry h;obtain⟨a,b,xs,ys,rfl,rfl,ha,hb,hx,hz,q1,q2⟩:=h;cases rx;cases ry;obtain⟨its,r1,p1,_⟩:=I.tuple ha;obtain⟨its2,r2,p2,_⟩:=I.tuple hb;refine HT.cat_tup p1 p2 (λz=>hx (r1.nil_iff.mp z)) (λz=>⟨.ref a,H,I,rfl,q1 (r2.nil_iff.mp z)⟩) (λz=> ?_) (by rw[<-r1.length,<-r2.length];exact hz);refine⟨.ref s.heap.objs.size,_,I.laid (t':=s.toks) (o:=.tup (xs++ys)) (λb ob q=>aD _ q) (aM _) ?_,rfl,q2 (λw=>z (r2.nil_iff.mpr w)) _ (I.hok.fresh (aM _))⟩;exact⟨by rw[bB];exact hz,_,r1.append r2,IsTupD.new _ _⟩
end
noncomputable def ixN(n:Nat)(i:Int):Option Nat:=if 0<=i then(if i<n then some i.toNat else none) else if -(n:Int)<=i then some (i+n).toNat else none
noncomputable def atI{α:Type}(xs:List α)(i:Int):Option α:=(ixN xs.length i).bind λj=>xs[j]?
theorem aIY{n:Nat}{i:Int}{j:Nat}(h:ixN n i=some j):seqIndex? i n=some j/\j<n/\ -(n:Int)<=i/\i<n:=by
 unfold ixN at h
 by_cases h0:0<=i
 ·rw[if_pos h0] at h
  by_cases h1:i<n
  ·rw[if_pos h1] at h;have e:i.toNat=j:=cC.inj h;exact⟨by rw[seqIndex_of h0 h1,e],by omega,by omega,h1⟩
  ·rw[if_neg h1] at h;cases h
 ·rw[if_neg h0] at h
  by_cases h1: -(n:Int)<=i
  ·rw[if_pos h1] at h;have e:(i+n).toNat=j:=cC.inj h;exact⟨by rw[seqIndex_neg (by omega) h1,e],by omega,h1,by omega⟩
  ·rw[if_neg h1] at h;cases h
theorem aDe{α:Type}{xs:List α}{i:Int}{v:α}(h:atI xs i=some v):∃j,seqIndex? i xs.length=some j/\xs[j]? =some v/\j<xs.length/\ -(xs.length:Int)<=i/\i<xs.length:=by
 unfold atI at h;cases e:ixN xs.length i with
 |none=>rw[e] at h;cases h
 |some j=>rw[e] at h;obtain⟨h1,h2,h3,h4⟩:=aIY e;exact⟨j,h1,h,h2,h3,h4⟩
theorem zN{α:Type}{xs:List α}{j:Nat}{v:α}(h:xs[j]? =some v):atI xs (j:Int)=some v:=by
 have hj:j<xs.length:=(aN.mp h).1
 have e:ixN xs.length (j:Int)=some j:=by unfold ixN;rw[if_pos (by omega),if_pos (by omega)];simp
 unfold atI;rw[e];exact h
theorem atI_last{α:Type}(xs:List α)(v:α):atI (xs++[v]) (-1)=some v:=by
 have hl:(xs++[v]).length=xs.length+1:=by simp
 have e:ixN (xs++[v]).length (-1)=some xs.length:=by unfold ixN;rw[hl,if_neg (by decide),if_pos (by omega)];congr 1;omega
 unfold atI;rw[e];show(xs++[v])[xs.length]? =some v;simp
def lZ(b:Expr):Prop:=∀o i,subscripted b false o i=operate [o,i] (getItem o i)
def IxR(X:Cx)(r:R2):Prop:=
 ∀ (value slice:Expr) (pins:List (BQ×BZ)) (s:BP) (σ:St) (H:Hp) (x y:V) (v u:BO) (Q:VK),Inv X pins σ H s->RelV x v->RelV y u->r x y H Q->
  subscripted slice false v u=operate [v,u] (getItem v u)->AH (AE X.prog X.w) X.A (subscriptTail value slice v u) (EP X pins σ Q) X.xe s
def MtR(X:Cx)(id:String)(r:V->List V->Hp->VK->Prop):Prop:=
 ∀ (pins:List (BQ×BZ)) (s:BP) (σ:St) (H:Hp) (x:V) (xs:List V) (v:BO) (us:List BO) (Q:VK),Inv X pins σ H s->RelV x v->Vals xs us->r x xs H Q->
  AH (AE X.prog X.w) X.A (call (.builtin id) (v::us)) (EP X pins σ Q) X.xe s
section
variable {X:Cx}{a b:Expr}{ta tb:TE}{pos:Pos}
theorem aCx{r:R2}(hr:IxR X r)(ha:PE X a ta)(hb:PE X b tb)(hs:lZ b):PE X (.Subscript a b pos) (tOp r ta tb):=by intro pins s σ H Q I h;exact Subscript_ (aNz ha hb I h λv u s2 x y H2 I2 rx ry q=>hr a b pins s2 σ H2 x y v u Q I2 rx ry q (hs _ _))
noncomputable def rIxL(K:aA):R2:=λx y H Q=>∃p xs i v,x=.ref p/\y=.int i/\SqL K H p xs/\atI xs i=some v/\Q v H
noncomputable def rIxT(K:aA):R2:=λx y H Q=>∃p xs i v,x=.ref p/\y=.int i/\SqT K H p xs/\atI xs i=some v/\Q v H
theorem aDk:IxR X (rIxL X.K):=by
 intro value slice pins s σ H x y v u Q I rx ry h hs;obtain⟨p,xs,i,z,rfl,rfl,hq,he,q⟩:=h;cases rx;obtain⟨t,rfl⟩:=ry;obtain⟨its,r,pl,hz⟩:=I.list hq;obtain⟨j,h1,h2,h3,h4,h5⟩:=aDe he;obtain⟨w,ew,rw'⟩:=r.get h2;have hl:=r.length;have hn:=aCS;have fin:EP X pins σ Q w s:=⟨z,H,I,rw',q⟩
 by_cases h0:0<=i
 ·have hj:i.toNat=j:=by rw[seqIndex_of h0 h5] at h1;exact cC.inj h1
  exact item_listR pl.isList h0 (by omega) (by rw[hj];simpa using ew) fin hs
 ·have hj:(i+(its.toArray.size:Int)).toNat=j:=by rw[seqIndex_neg (by omega) h4] at h1;rw[aW,<-hl];exact cC.inj h1
  exact subscriptTail_builtinR (x:=w) pl.isList.typeIs slot_list_getitem.lookup
   (wpAny_getItem_list_neg (Q:=λr s'=>r=w/\EP X pins σ Q r s') pl.isList (by omega) (by rw[aW]<;>omega) (by omega) (by rw[hj];simpa using ew) ⟨rfl,fin⟩) hs
theorem aCB:IxR X (rIxT X.K):=by
 intro value slice pins s σ H x y v u Q I rx ry h hs;obtain⟨p,xs,i,z,rfl,rfl,hq,he,q⟩:=h;cases rx;obtain⟨t,rfl⟩:=ry;obtain⟨its,r,pl,hz⟩:=I.tuple hq;obtain⟨j,h1,h2,h3,h4,h5⟩:=aDe he;obtain⟨w,ew,rw'⟩:=r.get h2;have hl:=r.length;have hn:=aCS;have fin:EP X pins σ Q w s:=⟨z,H,I,rw',q⟩
 exact subscriptTail_builtinR (x:=w) pl.typeIs slot_tuple_getitem.lookup
  (getItem_tuple (j:=j) (Q:=λr s'=>r=w/\EP X pins σ Q r s') pl (by omega) (by omega) (by rw[aW,<-hl];exact h1) (by simpa using ew) ⟨rfl,fin⟩) hs
theorem aAd(lo hi:Option Int)(n:Nat):(sliceBounds lo hi none n).1=((HT.sIx n 0 lo:Nat):Int)/\(sliceBounds lo hi none n).2.1=((HT.sIx n n hi:Nat):Int)/\(sliceBounds lo hi none n).2.2=1:=by
 refine⟨?_, ?_,rfl⟩
 ·cases lo with
  |none=>simp[sliceBounds,HT.sIx]
  |some i=>
   simp only[sliceBounds,HT.sIx,aGZ,show(1:Int)>0 by decide,if_true]
   by_cases h:i<0
   ·simp only[h,if_true]<;>omega
   ·simp only[h,if_false]<;>omega
 ·cases hi with
  |none=>simp[sliceBounds,HT.sIx]
  |some i=>
   simp only[sliceBounds,HT.sIx,aGZ,show(1:Int)>0 by decide,if_true]
   by_cases h:i<0
   ·simp only[h,if_true]<;>omega
   ·simp only[h,if_false]<;>omega
theorem xT(its:List BO)(lo hi:Option Int):slicePick its.toArray lo hi none=((its.drop (HT.sIx its.length 0 lo)).take (HT.sIx its.length its.length hi-HT.sIx its.length 0 lo)).toArray:=by obtain⟨h1,h2,h3⟩:=aAd lo hi its.toArray.size;unfold slicePick;rw[h1,h2,h3];simp only[sliceRange_one,pick_run,aW]<;>rfl
def rSlL(K:aA):V->Option Int->Option Int->Hp->VK->Prop:=λx lo hi H Q=>∃a xs,x=.ref a/\SqL K H a xs/\∀p,H p=none->Q (.ref p) (upd H p (.lst (xR xs lo hi)))
theorem aKt:SlR X (rSlL X.K):=by intro pins s σ H x v vl vu lo hi sl Q I rx hs pl pu h;obtain⟨a,xs,rfl,hx,q⟩:=h;cases rx;obtain⟨its,r,ht,hz⟩:=I.list hx;have hlen:=r.length;refine⟨"list",_,slot_list_getitem.lookup,ht.isList.typeIs, ?_⟩;refine wpAny_getItem_list_slice ht.isList hs pl pu .none (by simp) ?_ (by rw[aW]<;>omega);rw[xT,<-hlen];refine⟨.ref s.heap.objs.size,_,I.laid (t':=s.toks) (o:=.lst (xR xs lo hi)) (λb ob q=>aD _ q) (aM _) ?_,rfl,q _ (I.hok.fresh (aM _))⟩;exact⟨cO (tX xs lo hi) hz,_,0,(r.drop (HT.sIx xs.length 0 lo)).take (HT.sIx xs.length xs.length hi-HT.sIx xs.length 0 lo),aZ _ rfl⟩
noncomputable def oH:V->Bool
 |.non=>true
 |.bl _=>true
 |.int _=>true
 |.str _=>true
 |_=>false
noncomputable def eqV:V->V->Bool
 |.non,.non=>true
 |.bl a,.bl b=>a==b
 |.bl a,.int b=>(if a then 1 else 0)==b
 |.int a,.bl b=>a==(if b then 1 else 0)
 |.int a,.int b=>a==b
 |.str a,.str b=>a==b
 |_,_=>false
theorem vV{A:BR}{s:BP}{y x:V}{u v:BO}(ry:RelV y u)(rx:RelV x v)(fy:oH y=true)(fx:oH x=true):SeqAt.EqAt A s u v (eqV y x):=by
 cases y with
 |non=>
  cases ry;cases x with
  |non=>cases rx;exact SeqAt.EqAt.same _
  |bl b=>cases rx;exact SeqAt.EqAt.none_bool b
  |int b=>obtain⟨t,rfl⟩:=rx;exact SeqAt.EqAt.none_int b t
  |str b=>obtain⟨t,rfl⟩:=rx;exact SeqAt.EqAt.none_str b t
  |_=>exact absurd (show false=true from fx) bN
 |bl a=>
  cases ry;cases x with
  |non=>cases rx;exact SeqAt.EqAt.bool_none a
  |bl b=>cases rx;exact SeqAt.EqAt.bool_bool a b
  |int b=>obtain⟨t,rfl⟩:=rx;exact SeqAt.EqAt.bool_int a b t
  |str b=>obtain⟨t,rfl⟩:=rx;exact SeqAt.EqAt.bool_str a b t
  |_=>exact absurd (show false=true from fx) bN
 |int a=>
  obtain⟨t',rfl⟩:=ry;cases x with
  |non=>cases rx;exact SeqAt.EqAt.int_none a t'
  |bl b=>cases rx;exact SeqAt.EqAt.int_bool a t' b
  |int b=>obtain⟨t,rfl⟩:=rx;exact SeqAt.EqAt.int_int a t' b t
  |str b=>obtain⟨t,rfl⟩:=rx;exact SeqAt.EqAt.int_str a t' b t
  |_=>exact absurd (show false=true from fx) bN
 |str a=>
  obtain⟨t',rfl⟩:=ry;cases x with
  |non=>cases rx;exact SeqAt.EqAt.str_none a t'
  |bl b=>cases rx;exact SeqAt.EqAt.str_bool a t' b
  |int b=>obtain⟨t,rfl⟩:=rx;exact SeqAt.EqAt.str_int a t' b t
  |str b=>obtain⟨t,rfl⟩:=rx;exact SeqAt.EqAt.str_str a t' b t
  |_=>exact absurd (show false=true from fx) bN
 |_=>exact absurd (show false=true from fy) bN
noncomputable def eqU(x:V)(u:BO):Bool:=match u with
 |.none=>eqV .non x
 |.bool b=>eqV (.bl b) x
 |.int i _=>eqV (.int i) x
 |.str z _=>eqV (.str z) x
 |_=>false
theorem aHr{x y:V}{u:BO}(r:RelV y u)(f:oH y=true):eqU x u=eqV y x:=by
 cases y with
 |non=>cases r;rfl
 |bl b=>cases r;rfl
 |int i=>obtain⟨t,rfl⟩:=r;rfl
 |str z=>obtain⟨t,rfl⟩:=r;rfl
 |_=>exact absurd (show false=true from f) bN
theorem aAC{x:V}:∀ {xs:List V}{us:List BO},Vals xs us->xs.all oH=true->us.any (eqU x)=xs.any λy=>eqV y x
 |_,_,.nil,_=>rfl
 |y::xs,u::us,.cons r t,f=>by rw[aNq,bM] at f;rw[sJ,sJ,aHr r f.1,aAC t f.2]
theorem vD{A:BR}{s:BP}{x:V}{v:BO}(rx:RelV x v)(fx:oH x=true):∀ {xs:List V}{us:List BO},Vals xs us->xs.all oH=true->∀u∈us,SeqAt.EqAt A s u v (eqU x u)
 |_,_,.nil,_=>λu hu=>by cases hu
 |y::xs,u::us,.cons r t,f=>λu' hu=>by
  rw[aNq,bM] at f
  rcases aQ.mp hu with rfl|hu
  ·rw[aHr r f.1];exact vV r rx f.1 fx
  ·exact vD rx fx t f.2 u' hu
noncomputable def inV(x:V)(xs:List V):Bool:=xs.any λy=>eqV y x
noncomputable def rIn(K:aA)(neg:Bool):R2:=λx y H Q=>∃p xs,y=.ref p/\(SqL K H p xs\/SqT K H p xs)/\oH x=true/\xs.all oH=true/\Q (.bl (if neg then !inV x xs else inV x xs)) H
theorem aEt:OpR X (AZ .In) (rIn X.K false):=by
 intro pins s σ H x y v u Q I rx ry h;obtain⟨p,xs,rfl,hq,fx,fs,q⟩:=h;cases ry
 rcases hq with hq|hq
 ·obtain⟨its,r,pl,hz⟩:=I.list hq;refine SeqAt.in_listAt (eqU x) pl.isList (λw hw=>vD rx fx r fs w (by simpa using hw)) ⟨.bl _,H,I,rfl, ?_⟩;rw[show its.toArray.any (eqU x)=its.any (eqU x) by simp,aAC r fs];exact q
 ·obtain⟨its,r,pl,hz⟩:=I.tuple hq;refine SeqAt.in_tupleAt (eqU x) pl (λw hw=>vD rx fx r fs w (by simpa using hw)) ⟨.bl _,H,I,rfl, ?_⟩;rw[show its.toArray.any (eqU x)=its.any (eqU x) by simp,aAC r fs];exact q
theorem nV:mH X (.builtin "len") (λxs H Q=>∃p ys,xs=[.ref p]/\(SqL X.K H p ys\/SqT X.K H p ys)/\Q (.int ys.length) H):=by
 intro pins s σ H xs us Q I r h;obtain⟨p,ys,rfl,hq,q⟩:=h;obtain⟨u,rfl,rx⟩:=pA r;cases rx;have hn:=aCS
 rcases hq with hq|hq
 ·obtain⟨its,r',pl,hz⟩:=I.list hq;have hlen:=r'.length;exact Calls.call_len_list pl.isList (by simp only[aW]<;>omega) ⟨.int ys.length,H,I.tok _,⟨s.toks+1,by rw[aW,hlen]⟩,q⟩
 ·obtain⟨its,r',pl,hz⟩:=I.tuple hq;have hlen:=r'.length;exact len_tuple pl (by simp only[aW]<;>omega) ⟨.int ys.length,H,I.tok _,⟨s.toks+1,by rw[aW,hlen]⟩,q⟩
theorem aAg:mH X (.type "list") (λxs H Q=>∃p ys,xs=[.ref p]/\(SqL X.K H p ys\/SqT X.K H p ys)/\∀l,H l=none->Q (.ref l) (upd H l (.lst ys))):=by
 intro pins s σ H xs us Q I r h;obtain⟨p,ys,rfl,hq,q⟩:=h;obtain⟨u,rfl,rx⟩:=pA r;cases rx
 have fin:∀ (its:List BO),Vals ys its->ys.length<=AM->∀ (h':BS) (c':Nat),(∀b o',s.heap.get? b=some o'->h'.get? b=some o')->
   h'.get? s.heap.objs.size=some {cls:=.type "list",dict:=none,data:=.seq its.toArray c',slots:= #[]}->EP X pins σ Q (.ref s.heap.objs.size) {s with heap:=h'}:=λits r' hz h' c' kp e=>
  ⟨.ref s.heap.objs.size,_,I.laid (t':=s.toks) kp (aM _) (show ObjOk X.prog X.w _ h' _ (.lst ys) from⟨hz,its,c',r',e⟩),rfl,q _ (I.hok.fresh (aM _))⟩
 rcases hq with hq|hq
 ·obtain⟨its,r',pl,hz⟩:=I.list hq;have hlen:=r'.length;obtain⟨o,ho,hc,n,hd⟩:=pl.isList;exact call_list_seq p (.inl rfl) ho hc hd (λh' c' kp e=>fin its r' hz h' c' kp e) (by simp only[aW]<;>omega)
 ·obtain⟨its,r',pl,hz⟩:=I.tuple hq;have hlen:=r'.length;obtain⟨o,ho,hc,n,hd⟩:=pl;exact call_list_seq p (.inr rfl) ho hc hd (λh' c' kp e=>fin its r' hz h' c' kp e) (by simp only[aW]<;>omega)
theorem xX:mH X (.type "tuple") (λxs H Q=>∃p ys,xs=[.ref p]/\((SqL X.K H p ys/\∀l,H l=none->Q (.ref l) (upd H l (.tup ys)))\/(SqT X.K H p ys/\Q (.ref p) H))):=by
 intro pins s σ H xs us Q I r h;obtain⟨p,ys,rfl,h⟩:=h;obtain⟨u,rfl,rx⟩:=pA r;cases rx
 rcases h with⟨hq,q⟩|⟨hq,q⟩
 ·obtain⟨its,r',pl,hz⟩:=I.list hq;have hlen:=r'.length;refine call_tuple_list pl.isList (λh' kp=> ?_) (by simp only[aW]<;>omega);have I1:Inv X pins σ H {s with heap:=h'}:=I.kept (t':=s.toks) kp
  have I2:Inv X pins σ (upd H h'.objs.size (.tup ys)) {s with heap:=h'.push {cls:=.type "tuple",data:=.seq its.toArray}}:=
   I1.laid (t':=s.toks) (λb o e=>aD _ e) (aM _) (show ObjOk X.prog X.w _ _ _ (.tup ys) from⟨hz,its,r',IsTupD.new _ _⟩)
  exact⟨.ref h'.objs.size,_,I2,rfl,q _ (I1.hok.fresh (aM _))⟩
 ·obtain⟨its,r',pl,hz⟩:=I.tuple hq;exact call_tuple_same pl ⟨.ref p,H,I,rfl,q⟩
def tyV(K:aA)(T:String)(x:V)(H:Hp):Prop:=match x with
 |.str _=>T="str"
 |.int _=>T="int"
 |.ref p=>(T="list"/\∃xs,SqL K H p xs)\/(T="tuple"/\∃o,K.lookup p=some o/\o.cls=.type "tuple"/\o.dict=none)\/
   (T="dict"/\((∃kvs,H p=some (.dK kvs))\/∃kvs,H p=some (.dT kvs)))\/(T="set"/\∃S n,H p=some (.set S n))
 |_=>False
theorem aMP{pins:List (BQ×BZ)}{σ:St}{H:Hp}{s:BP}{T:String}{x:V}{v:BO}(I:Inv X pins σ H s)(r:RelV x v)(ty:tyV X.K T x H):
  s.TypeIs v T/\∀a,v=.ref a->∃ob,s.heap.get? a=some ob/\ob.dict=none:=by
 cases x with
 |str z=>obtain⟨t,rfl⟩:=r;cases(show T="str" from ty);exact⟨typeIs_str s z t,λ_ e=>nomatch e⟩
 |int i=>obtain⟨t,rfl⟩:=r;cases(show T="int" from ty);exact⟨typeIs_int s i t,λ_ e=>nomatch e⟩
 |ref p=>
  cases r
  rcases ty with⟨rfl,xs,hq⟩|⟨rfl,o,hk,hc,hd⟩|⟨rfl,hk⟩|⟨rfl,S,n,hk⟩
  ·obtain⟨its,_,pl,_⟩:=I.list hq;refine⟨pl.isList.typeIs,λa e=> ?_⟩;cases e;obtain⟨o,n,e,c,hd,_⟩:=pl;exact⟨o,e,hd⟩
  ·refine⟨⟨o,I.kIn p o hk,hc⟩,λa e=> ?_⟩;cases e;exact⟨o,I.kIn _ o hk,hd⟩
  ·have z:∃o,s.heap.get? p=some o/\o.ExactDict:=by
    rcases hk with⟨kvs,hk⟩|⟨kvs,hk⟩
    ·obtain⟨_,_,_,_,o,_,_,e,ex,_⟩:=I.hok p _ hk;exact⟨o,e,ex⟩
    ·obtain⟨_,_,_,_,o,_,_,e,ex,_⟩:=I.hok p _ hk;exact⟨o,e,ex⟩
   obtain⟨o,e,ex⟩:=z;refine⟨⟨o,e,ex.1⟩,λa e2=> ?_⟩;cases e2;exact⟨o,e,ex.2.1⟩
  ·obtain⟨o,_,_,_,e,ex,_⟩:=I.hok p _ hk;refine⟨⟨o,e,ex.1⟩,λa e2=> ?_⟩;cases e2;exact⟨o,e,ex.2.1⟩
 |_=>exact False.elim ty
noncomputable def tBM(K:aA)(T:String)(r:V->List V->Hp->VK->Prop)(to:TE)(t:TA):TE:=λσ H Q=>to σ H λx H1=>tyV K T x H1/\t σ H1 λxs H2=>r x xs H2 Q
variable {o e:Expr}{es:List Expr}{to:TE}{t:TA}{name:Str}{apos cpos:Pos}{T id:String}{r:V->List V->Hp->VK->Prop}
theorem aFG(pa:PlainAttrs T)(slot:Slot T name id)(hty:typeOf (.builtin id)=pure (.type "method_descriptor"))(hm:MtR X id r)(ho:PE X o to)(ha:PA X (e::es) t)
  (hbase:attributeBase o name X.env (eval o X.env)=eval o X.env:=by rfl)
  (hfew:((Aw cpos (AD (e::es) X.env)).all (fun x=> !x.1) && (backToKw cpos (keywordEach [] X.env)).all (fun x=>x.1.isSome)
  &&decide ((e::es).length+([]:List Keyword).length+(if([]:List Keyword).isEmpty then 0 else 1)<30))=true:=by rfl)
  (hline:(apos.endLine==cpos.line)=true:=by rfl) (hs:AD (e::es) X.env=(false,eval e X.env)::AD es X.env:=by rfl) (hplain:(Aw cpos (AD es X.env)).any (·.1)=false:=by rfl):
  PE X (.Call (.Attribute o name apos) (e::es) [] cpos) (tBM X.K T r to t):=by
 intro pins s σ H Q I h;refine wpAny_Call_method_late hbase hfew hline rfl (thn (ho pins s σ H _ I h) λv s1 ⟨x,H1,I1,r1,ty,q1⟩=> ?_);obtain⟨h1,h2⟩:=aMP I1 r1 ty;refine⟨T,id,pa,slot,hty,h1,h2, ?_⟩;have hA:=ha cpos pins s1 σ H1 _ I1 q1;rw[hs] at hA ⊢;refine Calls.callWith_builtin (by show(false||(Aw cpos (AD es X.env)).any (·.1))=false;rw[hplain]<;>rfl) (Calls.evalArgs_plain ?_);exact thn hA λus s2 ⟨vs,H2,I2,r2,q2⟩=>hm pins s2 σ H2 x vs v us Q I2 r1 r2 q2
/- xs.append(e),list.index on a module's tuple .. are MtR facts of 06m -/
end
def MtM(X:Cx)(id:String)(r:V->List V->Hp->VK->Prop):Prop:=
 ∀ (pins:List (BQ×BZ)) (s:BP) (σ:St) (H:Hp) (x:V) (xs:List V) (v:BO) (us:List BO) (Q:VK),Inv X pins σ H s->RelV x v->Vals xs us->r x xs H Q->
  AH (AE X.prog X.w) X.A (call (.builtin id) (v::us)) (EP X pins σ Q) X.xe s
theorem Vals.one:∀ {x:V}{us:List BO},Vals [x] us->∃u,us=[u]/\RelV x u
 |_,_,.cons r .nil=>⟨_,rfl,r⟩
section
variable {X:Cx}{pins:List (BQ×BZ)}{σ:St}{H:Hp}{s:BP}{l b:BQ}{xs ys zs:List V}
theorem Inv.lset{its its':List BO}{n:Nat}{f:Array BO->Array BO}{t':Nat}(I:Inv X pins σ H s)(hH:H l=some (.lst xs))
  (e:s.heap.get? l=some {cls:=.type "list",data:=.seq its.toArray n}) (hf:f its.toArray=its'.toArray) (hv:Vals ys its') (hz:ys.length<=AM):
  Inv X pins σ (upd H l (.lst ys)) {s with heap:=s.heap.update l (Obj.mapSeq f),toks:=t'}:=by
 have q:=PySem.IsL.update e f;rw[hf] at q;refine I.write (x:=l) (e:=l) (by rw[hH];exact trivial) (.inl rfl) (λb' u hb hu=>(cI s.heap (Obj.mapSeq f) (Ne.symm hb)).trans hu) ⟨_,q⟩ ?_;exact⟨hz,its',_,hv,q⟩
theorem Inv.lstM(I:Inv X pins σ H s)(hH:H l=some (.lst xs)):xs.length<=AM/\∃ (its:List BO) (n:Nat),Vals xs its/\xs.length=its.length/\s.heap.get? l=some {cls:=.type "list",data:=.seq its.toArray n}:=by obtain⟨z,its,n,r,e⟩:=I.hok l _ hH;exact⟨z,its,n,r,r.length,e⟩
theorem aFS{n:Nat}(h:n<=AM):Builtin.List.listTooLong n=false:=by unfold Builtin.List.listTooLong;exact decide_eq_false (by omega)
end
section
variable {X:Cx}
def rZ:V->List V->Hp->VK->Prop:=λx vs H Q=>∃l xs y,x=.ref l/\vs=[y]/\H l=some (.lst xs)/\xs.length<AM/\Q .non (upd H l (.lst (xs++[y])))
theorem sQ:MtM X "list.append" rZ:=by intro pins s σ H x vs v us Q I rx rv h;obtain⟨l,xs,y,rfl,rfl,hH,hz,q⟩:=h;cases rx;obtain⟨u,rfl,ru⟩:=rv.one;obtain⟨z,its,n,r,hl,e⟩:=I.lstM hH;refine call_meets F.slot_list_append ⟨_,e,rfl⟩ F.entry_list_append (F.args_list_append_2 _ _) (PySem.list_append l its.toArray n u (by rw[aW];omega)) ⟨e, ?_⟩;refine⟨.non,_,I.lset (its':=its++[u]) hH e (by simp) (r.append (.cons ru .nil)) ?_,rfl,q⟩;rw[bB,List.length_singleton];omega
def aDP:V->List V->Hp->VK->Prop:=λx vs H Q=>∃l b xs zs,x=.ref l/\vs=[.ref b]/\H l=some (.lst xs)/\H b=some (.lst zs)/\xs.length+zs.length<=AM/\Q .non (upd H l (.lst (xs++zs)))
theorem aEw:MtM X "list.extend" aDP:=by
 intro pins s σ H x vs v us Q I rx rv h;obtain⟨l,b,xs,zs,rfl,rfl,hH,hB,hz,q⟩:=h;cases rx;obtain⟨u,rfl,ru⟩:=rv.one;cases ru;obtain⟨z,its,n,r,hl,e⟩:=I.lstM hH;obtain⟨z2,its2,n2,r2,hl2,e2⟩:=I.lstM hB;have hsz:its.toArray.size+its2.toArray.size<=AM:=by rw[aW,aW];omega
 have hlong:¬ (!its.toArray.isEmpty&&Builtin.List.listTooLong (its.toArray.size+its2.toArray.size))=true:=by rw[aFS hsz,qD];exact bN
 refine call_meets F.slot_list_extend ⟨_,e,rfl⟩ F.entry_list_extend (F.args_list_extend_2 _ _)
  (AutoSeq1.list_extend_list_list_0 l its.toArray n b its2.toArray n2 hlong (by rw[aW];omega) (by omega)) ⟨e,e2, ?_⟩
 refine⟨.non,_,I.lset (its':=its++its2) hH e (by simp) (r.append r2) ?_,rfl,q⟩;rw[bB];omega
def aNQ:V->List V->Hp->VK->Prop:=λx vs H Q=>∃l xs y,x=.ref l/\vs=[]/\H l=some (.lst xs)/\xs[xs.length-1]? =some y/\Q y (upd H l (.lst xs.dropLast))
end
section
variable {prog:AG}{w:AL}{A:BR}{E:BO->BP->Prop}{s:BP}
set_option maxRecDepth 100000 in
end
section
variable {κ:Type}[DecidableEq κ]
noncomputable def kU(kvs:List (κ×V))(k:κ):Option V:=(kvs.find? λkv=>decide (kv.1=k)).map (·.2)
noncomputable def aKR(kvs:List (κ×V))(k:κ)(v:V):List (κ×V):=
 if(kvs.any λkv=>decide (kv.1=k))=true then kvs.map (λkv=>if kv.1=k then(kv.1,v) else kv) else kvs++[(k,v)]
theorem nJ{p:κ×V}{r:List (κ×V)}{k:κ}(e:p.1=k):kU (p::r) k=some p.2:=by simp[kU,jZ,e]
theorem kS{p:κ×V}{r:List (κ×V)}{k:κ}(e:¬ p.1=k):kU (p::r) k=kU r k:=by simp[kU,jZ,e]
theorem wO(k:κ):∀kvs:List (κ×V),(kvs.any λkv=>decide (kv.1=k))=(kU kvs k).isSome
 |[]=>rfl
 |p::r=>by
  rw[sJ]
  by_cases e:p.1=k
  ·simp only[nJ e,decide_eq_true e,aOR,Option.isSome_some]
  ·rw[kS e,decide_eq_false e,Bool.false_or];exact wO k r
theorem wX{kvs:List (κ×V)}{k:κ}(v:V)(h:kU kvs k=none):aKR kvs k v=kvs++[(k,v)]:=by unfold aKR;rw[wO,h];exact if_neg (by decide)
theorem RelO.isSome_eq{o:Option V}{u:Option BO}(r:RelO o u):o.isSome=u.isSome:=by
 cases o with
 |none=>cases u with
  |none=>rfl
  |some _=>exact(show False from r).elim
 |some _=>cases u with
  |none=>exact(show False from r).elim
  |some _=>rfl
end
theorem aNZ{P:AG}{w:AL}{k:Key}{u:BO}(r:RelV (kV k) u):(eY P w).is k u=true:=by
 cases k with
 |inl i=>obtain⟨t,e⟩:=(show ∃t,u=Value.int i t from r);subst e;exact aAK P w i t
 |inr x=>obtain⟨t,e⟩:=(show ∃t,u=Value.str x t from r);subst e;exact aAD P w x t
theorem yD{P:AG}{w:AL}:∀ {ks:List Key}{us:List BO},Vals (ks.map kV) us->ItemsAre (eY P w) ks us
 |[],_,r=>by rw[fU] at r;cases r;exact .nil
 |k::ks,_,r=>by
  rw[aX] at r;cases r with
  |cons h t=>exact .cons (aNZ h) (yD t)
abbrev KT(H:Hp):List (List Key×V)->List (List Key×BQ×BO)->Prop:=Paired λp q=>p.1=q.1/\H q.2.1=some (.tup (p.1.map kV))/\RelV p.2 q.2.2
theorem KT.val{H:Hp}{kvs:List (List Key×V)}{xs:List (List Key×BQ×BO)}(r:KT H kvs xs)(k:List Key):RelO (kU kvs k) ((atKey xs k).map (·.2)):=by
 induction r with
 |nil=>exact True.intro
 |@cons p q ps qs h t ih=>
  obtain⟨h1,_,h2⟩:=h
  by_cases e:p.1=k
  ·have e':q.1=k:=h1.symm.trans e;have b:atKey (q::qs) k=some q.2:=by simp[atKey,jZ,e']
   rw[nJ e,b];exact h2
  ·have e':¬ q.1=k:=λz=>e (h1.trans z)
   have b:atKey (q::qs) k=atKey qs k:=by simp[atKey,jZ,e']
   rw[kS e,b];exact ih
theorem KT.repl{H:Hp}{kvs:List (List Key×V)}{xs:List (List Key×BQ×BO)}(r:KT H kvs xs)(k:List Key){y:V}{u:BO}(ry:RelV y u):
  KT H (kvs.map λkv=>if kv.1=k then(kv.1,y) else kv) (xs.map (putAt k u)):=by
 induction r with
 |nil=>exact .nil
 |@cons p q ps qs h t ih=>
  rw[aX,aX];refine .cons ?_ ih;obtain⟨h1,h2,h3⟩:=h;unfold putAt
  by_cases e:p.1=k
  ·rw[if_pos e,if_pos (h1.symm.trans e)];exact⟨h1,h2,ry⟩
  ·rw[if_neg e,if_neg (λz=>e (h1.trans z))];exact⟨h1,h2,h3⟩
theorem KT.put{H:Hp}{kvs:List (List Key×V)}{xs:List (List Key×BQ×BO)}(r:KT H kvs xs)(k:List Key){b:BQ}{y:V}{u:BO}(hb:H b=some (.tup (k.map kV)))(ry:RelV y u):
  KT H (aKR kvs k y) (storedH xs k b u):=by
 have e:(kvs.any λkv=>decide (kv.1=k))=(atKey xs k).isSome:=by rw[wO,(r.val k).isSome_eq,aFn]
 unfold aKR storedH;rw[e]
 by_cases q:(atKey xs k).isSome=true
 ·rw[if_pos q,if_pos q];exact r.repl k ry
 ·rw[if_neg q,if_neg q];exact Paired.snoc r ⟨rfl,hb,ry⟩
theorem KT.keeps{H H':Hp}{kvs:List (List Key×V)}{xs:List (List Key×BQ×BO)}(r:KT H kvs xs)(ht:∀b ys,H b=some (.tup ys)->H' b=some (.tup ys)):KT H' kvs xs:=
 Paired.mapP r λ_ _ z=>⟨z.1,ht _ _ z.2.1,z.2.2⟩
section
variable {P:AG}{w:AL}{H:Hp}{h:BS}{a:BQ}
theorem tJ{ks:List Key}(ok:HOk P w H h)(e:H a=some (.tup (ks.map kV))):(Ar (eY P w)).is h ks a:=by obtain⟨_,its,r,o,h1,h2,⟨n,h3⟩,_⟩:=(show ObjOk P w H h a (.tup (ks.map kV)) from ok a _ e);exact⟨o,its.toArray,n,h1,h2,h3,by simpa using yD r⟩
end
section
variable {X:Cx}{pins:List (BQ×BZ)}{σ:St}{H:Hp}{s:BP}{a:BQ}{y v:V}{u r:BO}{o:Option V}{A:BR}{E:BO->BP->Prop}
theorem Inv.big(I:Inv X pins σ H s):Ao<s.heap.objs.size:=by have h:AO<s.heap.objs.size:=(I.mod.glob.keeps I.bk).lt;exact pC (by decide) h
theorem uS{h':BS}{t':Nat}{ob:HO}(I:Inv X pins σ H s)(mu:Mut (H a))(hs:Heap.SameBut a s.heap h')(he:∃q,h'.get? a=some q)(new:ObjOk X.prog X.w (upd H a ob) h' a ob):
  Inv X pins σ (upd H a ob) {s with heap:=h',toks:=t'}:=
 I.write (x:=a) (e:=a) mu (.inl rfl) (λb q hb z=>(hs.2 b hb).trans z) he new
end
def aPe(i:Expr):Prop:=∀ov iv,subscripted i false ov iv=operate [ov,iv] (getItem ov iv)
theorem aKd{prog:AG}{w:AL}{A:BR}{E:BO->BP->Prop}{s:BP}{env:Env}{value slice:Expr}{pos:Pos}{T id:String}{Q:BO->BP->Prop}
  (hl:typeLookup (.type T) "__getitem__"=pure (some (.builtin id))) (hs:aPe slice)
  (h:AH (AE prog w) A (eval value env) (λo s₁=>AH (AE prog w) A (eval slice env) (λi s₂=>s₂.TypeIs o T/\AH (AE prog w) A (getItem o i) Q E s₂) E s₁) E s):
  AH (AE prog w) A (eval (.Subscript value slice pos) env) Q E s:=by
 refine Subscript_ (Ah h (λo s₁ h₁=>Ah h₁ (λi s₂ h₂=> ?_) λ_ _ x=>x) λ_ _ x=>x);obtain⟨hT,h₂⟩:=h₂;unfold subscriptTail;refine AA ?_;rw[getitemInPython_of_ne hT.not_modules];refine AA (wpAny_specialOf hT hl ?_)
 have fin:AH (AE prog w) A (subscripted slice false o i) (λr s₃=>AH (AE prog w) A (letTemporaryGo value o r>>=λ_=>pure r) Q E s₃) E s₂:=by rw[hs o i];exact wpAny_operating (Ah h₂ (λr s₃ h₃=>AA (wpAny_letTemporaryGo (AB h₃))) λ_ _ x=>x)
 first
  |exact AB (AA fin)
  |exact AA (AB (AA fin))
  |exact AA fin
abbrev VV:List (V×V)->List (BO×BO)->Prop:=Paired λp q=>RelV p.1 q.1/\RelV p.2 q.2
structure M1(X:Cx)(o:Expr)(m:Str)(apos:Pos)(e:Expr)(cpos:Pos):Prop where
 base:attributeBase o m X.env (eval o X.env)=eval o X.env
 few:((Aw cpos (AD [e] X.env)).all (fun x=> !x.1) && (backToKw cpos (keywordEach [] X.env)).all (fun x=>x.1.isSome)
 &&decide (([e]:List Expr).length+([]:List Keyword).length+(if([]:List Keyword).isEmpty then 0 else 1)<30))=true
 line:(apos.endLine==cpos.line)=true
 trees:Aw cpos (AD [e] X.env)=[(false,eval e X.env)]
structure M2(X:Cx)(o:Expr)(m:Str)(apos:Pos)(e f:Expr)(cpos:Pos):Prop where
 base:attributeBase o m X.env (eval o X.env)=eval o X.env
 few:((Aw cpos (AD [e,f] X.env)).all (fun x=> !x.1) && (backToKw cpos (keywordEach [] X.env)).all (fun x=>x.1.isSome)
 &&decide (([e,f]:List Expr).length+([]:List Keyword).length+(if([]:List Keyword).isEmpty then 0 else 1)<30))=true
 line:(apos.endLine==cpos.line)=true
 trees:Aw cpos (AD [e,f] X.env)=[(false,eval e X.env),(false,eval f X.env)]
end L2
namespace Att
open PySem PySem.W PySem.Calls PyProof.Rows
theorem uD{P:Params}{h:BS}:∀ (ns:List Int) (vs:List BO),WellAll P h vs (ns.map WData.int)->IntsAre vs ns:=by
 intro ns
 induction ns with
 |nil=>intro vs w;rw[fU] at w;cases w;exact .nil
 |cons n ns ih=>
  intro vs w;rw[aX] at w;cases w with
  |cons a b=>cases a;exact .cons _ _ (ih _ b)
theorem aEK{l:OpenLaw}{n:Nat}(hn:l.most=some n){P:Params}{h:BS}{args:List WData}{vals:List BO}
  (hpre:l.row.toRowW.claim.pre args=true) (hwl:WellAll P h vals args):
  ∃a vs ns,vals=[Value.ref a]/\args=[WData.list (ns.map WData.int)]/\h.get? a=some {cls:=.type "list",data:=.seq vs.toArray}/\IntsAre vs ns/\ns.length<=n:=by
 have hsh:WShape.hasAll [] args [.list .int]=true:=(pre_splitW hpre).1;have hc:l.pre.holds [] {args:=args}=true:=(pre_splitW hpre).2;obtain⟨d,r,rfl,h1,h2⟩:=hasAllW_cons hsh;obtain rfl:=hasAllW_nil h2;obtain⟨xs,rfl,h3⟩:=hasW_list h1;obtain⟨ns,rfl⟩:=items_int h3
 have hlen:ns.length<=n:=by
  unfold OpenLaw.pre at hc
  have h4:(WTm.not (.lt (.lit (.int (n:Int))) (.len (.arg 0)))).holds [] {args:=[.list (ns.map .int)]}=true:=by have h4:=(holds_andW hc).1;rw[hn] at h4;exact h4
  have h5:=condW_of h4 (w_not (w_lt w_lit (w_len_list (w_arg rfl))));rw[aB] at h5;refine aKL λq=> ?_
  have q':(n:Int)<((ns.length:Nat):Int):=by omega
  first
   |(rw[decide_eq_true q'] at h5;exact absurd h5 (by decide))
   |(simp at h5;omega)
 cases hwl with
 |cons w1 w2=>
  cases w2;cases w1 with
  |list ho hall=>exact⟨_,_,ns,rfl,rfl,ho,uD ns _ hall,hlen⟩
theorem aEV(l:OpenLaw)(args:List WData):l.row.toRowW.claim.post args (.bool true) args=true:=
 postW_of (r:=l.row.toRowW) (X:=(true==true))
  (show WShape.has [] (.bool true) .bool=true by first|rfl|decide|simp[WShape.has,WShape.arms,WShape.armsAll])
  (show(WTm.eq .res (.lit (.bool true))).value [] {args:=args,res:=some (.bool true),after:=args}=some (.bool (true==true)) from w_eq_bool (w_res rfl) w_lit) rfl
end Att
namespace L2
open PySem PySem.Spec PyProof.Rows
theorem yS:∀ {vs:List BO}{ns:List Int},IntsAre vs ns->Vals (ns.map V.int) vs
 |_,_,.nil=>.nil
 |_,_,.cons n t h=>.cons ⟨t,rfl⟩ (yS h)
def aNx(H:Hp):Prop:=∀b,H b=none\/∃o xs,H b=some (.frz o (.lst xs))
theorem aFR{P:AG}{w:AL}{K:aA}{mg mb:Str->Option BO}{CX:CXT}{k:Nat}{fa a:BQ}{fd:AY}{x:Str}{sp:Sp}{s₁:BP}{vs:List BO}{ns:List Int}
  (KX:K.In s₁.heap) (hns:s₁.heap.Ns AO mg) (hb:s₁.heap.Ns builtinsNs mb) (hbb:∀x:Str,x≠"__name__"->mb x=Aq x) (hlim:s₁.heap.NoLimit) (hg:s₁.gens= #[])
  (ha:s₁.heap.get? a=some {cls:=.type "list",data:=.seq vs.toArray}) (hi:IntsAre vs ns) (hl:ns.length<=AM) (hr:Room k callerA)
  (F:∀base:BS,K.In base->base.Ns AO mg->FnOk P w K mg base CX k fa fd [x] sp) (hbind:∀ (s:BP) (u:BO),BindsTo s fd ⟨[u],[]⟩ [(x,u)])
  (hsp:∀H:Hp,aNx H->SqL K H a (ns.map V.int)->sp [.ref a] H (λv _=>v=.bl true) λ_ _ _=>False)
  (hCX:∀H e s',CX [] H s₁ (λ_ _ _=>False) e s'->False):
  codeAny (AE P w) callerA (.call (.ref fa) ⟨[.ref a],[]⟩) (λr s'=>r=.ok (.ret (.bool true))/\OldK s₁.heap s'.heap/\s'.os=s₁.os/\AllBare s'.gens) s₁:=by
 have rv:=yS hi;have lenV:=hi.length
 have core:∀H:Hp,aNx H->SqL K H a (ns.map V.int)->HOk P w H s₁.heap->(∀b,H b≠none->b=a)->(H a≠none->K.lookup a=none)->
   codeAny (AE P w) callerA (.call (.ref fa) ⟨[.ref a],[]⟩) (λr s'=>r=.ok (.ret (.bool true))/\OldK s₁.heap s'.heap/\s'.os=s₁.os/\AllBare s'.gens) s₁:=by
  intro H hO hS hok hA hK;have base_of:∀ {b:BQ}{o:BZ},s₁.heap.get? b=some o->H b=none->(aFv s₁.heap H).get? b=some o:=λe n=>aGi e n
  have noA:∀ {b:BQ}{o:BZ}{es:Array DictEntry}{ep:Nat},s₁.heap.get? b=some o->o.data=.dict es ep->H b=none:=λ{b o es ep} e d=>by
   cases q:H b with
   |none=>rfl
   |some u=>have e':b=a:=hA b (by rw[q];simp);subst e';rw[ha] at e;cases e;have d':Data.seq vs.toArray _=Data.dict es ep:=d;cases d'
  have nsK:∀ {b:BQ}{m:Str->Option BO},s₁.heap.Ns b m->(aFv s₁.heap H).Ns b m:=λ{b m} ⟨o,es,ep,e,d,r⟩=>⟨o,es,ep,base_of e (noA e d),d,r⟩
  have hKb:K.In (aFv s₁.heap H):=fun b o e=>base_of (KX b o e) (by
   cases q:H b with
   |none=>rfl
   |some u=>
    have e':b=a:=hA b (by rw[q];simp);subst e'
    rw[hK (by rw[q];simp)] at e;cases e)
  have hM:Mod K mg (aFv s₁.heap H):=⟨hKb,nsK hns,⟨mb,nsK hb,hbb⟩,let ⟨mc,h1,h2⟩:=hlim;⟨mc,nsK h1,h2⟩⟩;have e0:aKC P w K mg (aFv s₁.heap H) callerA [] s₁ H:=⟨rfl,hM,λb o e=>aJm e,aFc (aEE _ _),trivial,λb hb=>absurd (show b∈([]:List BQ) from hb) (by simp),hok,.of_eq hg⟩;refine BB ((F _ hKb (nsK hns)).run callerA [] s₁ H ⟨[.ref a],[]⟩ [.ref a] [.ref a] _ _ hr e0 (hbind s₁ (.ref a)) (.cons rfl .nil) (hsp H hO hS)) λr s' h=> ?_
  cases r with
  |error e=>exact(hCX H e s' h).elim
  |ok fl=>
   cases fl with
   |next=>exact False.elim h
   |brk=>exact False.elim h
   |cont=>exact False.elim h
   |ret u=>
    obtain⟨v,H',os,bare,un,hok',r',q⟩:=h;have q':v=.bl true:=q;subst q';obtain rfl:u=Value.bool true:=r';refine⟨rfl,OldK.of_keep λb o e=> ?_,os,bare⟩;cases q:H b with
    |none=>exact un.keep b o e q (by intro z;exact absurd (show b∈([]:List BQ) from z) (by simp)) (by simp)
    |some u=>
     rcases hO b with z|⟨ob,xs,z⟩
     ·rw[q] at z;cases z
     ·have z2:=un.frzs b ob _ z;obtain⟨e1,_⟩:=hok b _ z;obtain⟨e2,_⟩:=hok' b _ z2;rw[e] at e1;cases e1;exact e2
 cases hk:K.lookup a with
 |some o=>
  have e:=KX a o hk;rw[ha] at e;cases e;refine core (λ_=>none) (λ_=>.inl rfl) (.inr ⟨_,vs.toArray,_,hk,rfl,rfl,rfl,by rw[aW,lenV];exact hl,by simpa using rv⟩) (λb u z=>by have z':(none:Option HO)=some u:=z;cases z') (λb z=>absurd rfl z) λz=>absurd rfl z
 |none=>
  refine core (λb=>if b=a then some (.frz {cls:=.type "list",data:=.seq vs.toArray} (.lst (ns.map V.int))) else none) (λb=> ?_) (.inl (.inr ⟨{cls:=.type "list",data:=.seq vs.toArray},if_pos rfl⟩)) (λb u z=> ?_) (λb z=> ?_) λ_=>hk
  ·by_cases hb:b=a
   ·exact .inr ⟨_,_,if_pos hb⟩
   ·exact .inl (if_neg hb)
  ·by_cases hb:b=a
   ·have z':=(if_pos hb).symm.trans z;cases z';subst hb;exact⟨ha,by rw[aB];exact hl,vs,_,rv,ha⟩
   ·have z':=(if_neg hb).symm.trans z;cases z'
  ·by_cases hb:b=a
   ·exact hb
   ·exact absurd (if_neg hb) z
noncomputable abbrev KOf{K:aA}{h:BS}(_:K.In h):aA:=K
noncomputable def kR(s:BU):Arguments:=match s with
 |.FunctionDef _ a _ _ _ _ _ _ _ _=>a
 |_=>{posonlyargs:=[],args:=[],vararg:=none,kwonlyargs:=[],kw_defaults:=[],kwarg:=none,defaults:=[]}
noncomputable def iK(s:BU):List BU:=match s with
 |.FunctionDef _ _ b _ _ _ _ _ _ _=>b
 |_=>[]
noncomputable def bI(s:BU):Scope:=match s with
 |.FunctionDef _ _ _ _ _ _ sc _ _ _=>sc
 |_=>{kind:=.function,names:=[],isGenerator:=false,isCoroutine:=false}
noncomputable abbrev CX0:CXT:=λ_ _ _ _ _ _=>False
noncomputable abbrev E0:XK:=λ_ _ _=>False
theorem aLs{X:Cx}:aCJ CX0 X E0:=λ_ _ _ _ _ _ _ h=>h.elim
structure Fun(K:aA)(x qual:Str)(st:BU)(f:BQ)(fd:AY):Prop where
 ex:∃ (oc:BO) (od:Option BQ) (kV doc pm:BO) (an:Option BQ) (cdv ct:BO) (osl:Array (Option BO)),
  fd=gB x qual (kR st) (iK st) (bI st) .none kV doc pm an cdv ct/\K.lookup f=some ⟨oc,od,.func fd,osl⟩/\kF K cdv qual=true
 kp:eE K (.ref f)=true
section
variable {P:AG}{w:AL}{K:aA}{mg:Str->Option BO}{base:BS}
theorem Fun.ok{x qual:Str}{st:BU}{f:BQ}{fd:AY}{N ps:List Str}{k:Nat}{sp:Sp}(F:Fun K x qual st f fd)(S:pH N ps (bI st))(len:∀vs H Q E,sp vs H Q E->vs.length=ps.length)
  (hbody:∀ (cdv:BO) (A:BR) (outer:List Env) (s:BP) (H:Hp) (vs:List V) (Q:VK) (E:XK),Room k (A.deeper (Aj qual (bI st) s.heap.objs.size f cdv))→sp vs H Q E→
   ∃t,PSs (oS CX0 P w K mg base N qual (bI st) f cdv A outer s H E).nox (iK st) t/\t {nx:=λ_ H'=>Q .non H',rt:=Q} (start N vs) H):FnOk P w K mg base CX0 (k+1) f fd ps sp:=by
 obtain⟨oc,od,kV,doc,pm,an,cdv,ct,osl,rfl,lk,hcd⟩:=F.ex;refine aOd lk hcd S len λA outer s H vs Q E hr hsp=> ?_
 obtain⟨t,h,q⟩:=hbody cdv A outer s H vs Q E hr hsp;exact⟨t,h.nox,q⟩
theorem Fun.binds{x qual:Str}{st:BU}{f:BQ}{fd:AY}{ps:List Str}(F:Fun K x qual st f fd)
  (h:∀ (kV doc pm:BO) (an:Option BQ) (cdv ct:BO) (us:List BO),us.length=ps.length->bindArgs (gB x qual (kR st) (iK st) (bI st) .none kV doc pm an cdv ct) ⟨us,[]⟩=pure (ps.zip us)):Binds K fd ps []:=by
 obtain⟨oc,od,kV,doc,pm,an,cdv,ct,osl,rfl,lk,hcd⟩:=F.ex;exact .all (h kV doc pm an cdv ct)
theorem aHU{x qual:Str}{st:BU}{f:BQ}{oc:BO}{od an:Option BQ}{osl:Array (Option BO)}{kV doc pm cdv ct:BO}(l:K.lookup f=some ⟨oc,od,.func (gB x qual (kR st) (iK st) (bI st) .none kV doc pm an cdv ct),osl⟩)
  (c:kF K cdv qual=true) (k:eE K (.ref f)=true):Fun K x qual st f (gB x qual (kR st) (iK st) (bI st) .none kV doc pm an cdv ct):=⟨⟨oc,od,kV,doc,pm,an,cdv,ct,osl,rfl,l,c⟩,k⟩
end
theorem fX{n:Nat}(h:n<=1000):n<AM:=bQ h (by decide)
section
variable {X:Cx}
theorem pv(i:Nat){x:Str}{pos:Pos}(hN:X.N[i]? =some x:=by rfl)(hv:Vis X.env.scope x:=by first|exact Or.inl rfl|exact Or.inr (Or.inl rfl)|exact Or.inr (Or.inr rfl))(hd:(x==("__debug__":Str))=false:=by decide)
  (hcd:(x==("__classdict__":Str))=false:=by decide):PE X (.Name x pos) (lH i):=aME hN hv hd hcd
end
theorem aKz{A B:Prop}(h:B):if false=true then A else B:=by rw[if_neg bN];exact h
theorem aKy{A B:Prop}(h:A):if true=true then A else B:=by rw[if_pos rfl];exact h
def Same(H H':Hp):Prop:=∀b o,H b=some o->H' b=some o
theorem Same.refl(H:Hp):Same H H:=λ_ _ h=>h
theorem Same.trans{H H1 H2:Hp}(a:Same H H1)(b:Same H1 H2):Same H H2:=λc o h=>b c o (a c o h)
theorem Same.free{H H':Hp}(e:Same H H'){l:BQ}(h:H' l=aNr):H l=aNr:=by
 cases q:H l with
 |none=>rfl
 |some o=>rw[e l o q] at h;cases h
theorem Same.seq{K:aA}{H H':Hp}{a:BQ}{xs:List V}(e:Same H H')(h:SqL K H a xs):SqL K H' a xs:=by
 rcases h with(h|⟨o,h⟩)|h
 ·exact .inl (.inl (e _ _ h))
 ·exact .inl (.inr ⟨o,e _ _ h⟩)
 ·exact .inr h
noncomputable def wE(X:Cx)(e:Expr):TE:=λσ H Q=>∀ (pins:List (BQ×BZ)) (s:BP),Inv X pins σ H s->AH (AE X.prog X.w) X.A (eval e X.env) (EP X pins σ Q) X.xe s
noncomputable def wT(X:Cx)(e:Expr):TT:=λσ H Q=>∀ (pins:List (BQ×BZ)) (s:BP),Inv X pins σ H s->AH (AE X.prog X.w) X.A (isTrue e X.env (eval e X.env)) (TP X pins σ Q) X.xe s
noncomputable def wW(X:Cx)(e:Expr):TT:=λσ H Q=>∀ (whole:Sem BO) (pins:List (BQ×BZ)) (s:BP),Inv X pins σ H s->AH (AE X.prog X.w) X.A (isTrue e X.env whole) (TP X pins σ Q) X.xe s
noncomputable def wA(X:Cx)(es:List Expr):TA:=λσ H Q=>∀ (pos:Pos) (pins:List (BQ×BZ)) (s:BP),Inv X pins σ H s->AH (AE X.prog X.w) X.A (spliced (Aw pos (AD es X.env))) (AP X pins σ Q) X.xe s
noncomputable def wS(X:Cx)(st:BU):TS:=λD σ H=>∀ (pins:List (BQ×BZ)) (s:BP),Inv X pins σ H s->AH (AE X.prog X.w) X.A (exec st X.env) (SP X pins D) X.xe s
noncomputable def wSs(X:Cx)(sts:List BU):TS:=λD σ H=>∀ (pins:List (BQ×BZ)) (s:BP),Inv X pins σ H s->AH (AE X.prog X.w) X.A (execs sts X.env) (SP X pins D) X.xe s
noncomputable def wG(X:Cx)(tg:Expr):TG:=λv σ H Q=>∀ (pins:List (BQ×BZ)) (s:BP) (u:BO),Inv X pins σ H s->RelV v u->
  AH (AE X.prog X.w) X.A (assign tg X.env u) (λ_ s'=>∃σ' H',Inv X pins σ' H' s'/\Q σ' H') X.xe s
noncomputable def wI(X:Cx)(tg iter:Expr):TI:=λσ H R=>∀ (pins:List (BQ×BZ)) (s:BP),Inv X pins σ H s->
  AH (AE X.prog X.w) X.A (eval iter X.env) (λv s1=>AH (AE X.prog X.w) X.A (pyIter v) (PIE X pins σ tg R) X.xe s1) X.xe s
section
variable {X:Cx}{e:Expr}{es:List Expr}{st:BU}{sts:List BU}{tg iter:Expr}{σ:St}{H:Hp}
theorem gR:PE X e (wE X e):=λpins s _ _ _ I h=>h pins s I
theorem aIu:PT X e (wT X e):=λpins s _ _ _ I h=>h pins s I
theorem aNO:PW X e (wW X e):=λw pins s _ _ _ I h=>h w pins s I
theorem xZ:PA X es (wA X es):=λpos pins s _ _ _ I h=>h pos pins s I
theorem aPb:PS X st (wS X st):=λpins s _ _ _ I h=>h pins s I
theorem rA:PSs X sts (wSs X sts):=λpins s _ _ _ I h=>h pins s I
theorem aNB:PG X tg (wG X tg):=λpins s _ _ _ u _ I r h=>h pins s u I r
theorem aOU:PI X tg iter (wI X tg iter):=λpins s _ _ _ I h=>h pins s I
theorem PE.to{t:TE}{Q:VK}(h:PE X e t)(q:t σ H Q):wE X e σ H Q:=λpins s I=>h pins s σ H Q I q
theorem PT.to{t:TT}{Q:Bool->Hp->Prop}(h:PT X e t)(q:t σ H Q):wT X e σ H Q:=λpins s I=>h pins s σ H Q I q
theorem PW.to{t:TT}{Q:Bool->Hp->Prop}(h:PW X e t)(q:t σ H Q):wW X e σ H Q:=λw pins s I=>h w pins s σ H Q I q
theorem PA.to{t:TA}{Q:List V->Hp->Prop}(h:PA X es t)(q:t σ H Q):wA X es σ H Q:=λpos pins s I=>h pos pins s σ H Q I q
theorem PS.to{t:TS}{D:uC}(h:PS X st t)(q:t D σ H):wS X st D σ H:=λpins s I=>h pins s σ H D I q
theorem PSs.to{t:TS}{D:uC}(h:PSs X sts t)(q:t D σ H):wSs X sts D σ H:=λpins s I=>h pins s σ H D I q
theorem wE.imp{Q Q':VK}(h:wE X e σ H Q)(k:∀v H',Q v H'->Q' v H'):wE X e σ H Q':=λpins s I=>thn (h pins s I) λu s' ⟨v,H',I',r,q⟩=>⟨v,H',I',r,k v H' q⟩
theorem wT.imp{Q Q':Bool->Hp->Prop}(h:wT X e σ H Q)(k:∀v H',Q v H'->Q' v H'):wT X e σ H Q':=λpins s I=>thn (h pins s I) λu s' ⟨H',I',q⟩=>⟨H',I',k u H' q⟩
theorem wW.imp{Q Q':Bool->Hp->Prop}(h:wW X e σ H Q)(k:∀v H',Q v H'->Q' v H'):wW X e σ H Q':=λw pins s I=>thn (h w pins s I) λu s' ⟨H',I',q⟩=>⟨H',I',k u H' q⟩
theorem wA.imp{Q Q':List V->Hp->Prop}(h:wA X es σ H Q)(k:∀v H',Q v H'->Q' v H'):wA X es σ H Q':=λpos pins s I=>thn (h pos pins s I) λu s' ⟨v,H',I',r,q⟩=>⟨v,H',I',r,k v H' q⟩
theorem SP.imp{pins:List (BQ×BZ)}{D D':uC}{f:Flow}{s:BP}(h:SP X pins D f s)(k1:∀σ H,D.nx σ H->D'.nx σ H)(k2:∀v H,D.rt v H->D'.rt v H)(k3:∀σ H,D.bk σ H->D'.bk σ H)(k4:∀σ H,D.ct σ H->D'.ct σ H):SP X pins D' f s:=by
 cases f with
 |next=>obtain⟨σ',H',I,q⟩:=h;exact⟨σ',H',I,k1 _ _ q⟩
 |brk=>obtain⟨σ',H',I,q⟩:=h;exact⟨σ',H',I,k3 _ _ q⟩
 |cont=>obtain⟨σ',H',I,q⟩:=h;exact⟨σ',H',I,k4 _ _ q⟩
 |ret u=>obtain⟨v,σ',H',I,r,q⟩:=h;exact⟨v,σ',H',I,r,k2 _ _ q⟩
theorem wSs.imp{D D':uC}(h:wSs X sts D σ H)(k1:∀σ H,D.nx σ H->D'.nx σ H)(k2:∀v H,D.rt v H->D'.rt v H)(k3:∀σ H,D.bk σ H->D'.bk σ H)(k4:∀σ H,D.ct σ H->D'.ct σ H):wSs X sts D' σ H:=
 λpins s I=>thn (h pins s I) λf s' q=>q.imp k1 k2 k3 k4
theorem wG.imp{v:V}{Q Q':St->Hp->Prop}(h:wG X tg v σ H Q)(k:∀σ' H',Q σ' H'->Q' σ' H'):wG X tg v σ H Q':=λpins s u I r=>thn (h pins s u I r) λ_ s' ⟨σ',H',I',q⟩=>⟨σ',H',I',k _ _ q⟩
end
section
variable {X:Cx}{pins:List (BQ×BZ)}{σ:St}{H F:Hp}{s:BP}
theorem HOk.track{P:AG}{w:AL}{h:BS}{a:BQ}{o:HO}(ok:HOk P w H h)(hn:H a=none)(new:ObjOk P w (upd H a o) h a o):HOk P w (upd H a o) h:=λb u e=>by
 by_cases hb:b=a
 ·subst hb;rw[cD] at e;cases e;exact new
 ·rw[bO hb] at e;exact(ok b u e).stay (λ_ _ _ q=>q) (λc q=>by rw[bO (cH q hn)];exact q) λc xs q=>by rw[bO (cH q hn)];exact q
theorem Inv.track{a:BQ}{o:HO}(I:Inv X pins σ H s)(hn:H a=none)(h0:X.s₀.heap.objs.size<=a)(hL:a≠X.env.locals)(hc:∀x c,X.env.cells.lookup x=some c->c≠a)
  (hp:∀p∈X.pn++pins,p.1≠a) (new:ObjOk X.prog X.w (upd H a o) s.heap a o):Inv X pins σ (upd H a o) s:=by
 refine⟨I.ok,I.os,I.bare,⟨I.base.keep,I.base.slot,λb u e n hx=> ?_,I.base.there,λb xs e=> ?_,λb u xs e=> ?_,λb ps e=> ?_⟩,I.loc,I.cell, ?_,λx c e=> ?_,λp hp'=> ?_,I.hok.track hn new,I.len⟩
 ·rw[bO (bH (aY (aK e) h0))];exact I.base.free b u e n hx
 ·have q:=I.base.tups b xs e;rw[bO (cH q hn)];exact q
 ·have q:=I.base.frzs b u xs e;rw[bO (cH q hn)];exact q
 ·obtain⟨m,q⟩:=I.base.tbls b ps e;exact⟨m,by rw[bO (cH q hn)];exact q⟩
 ·rw[bO (Ne.symm hL)];exact I.free
 ·rw[bO (hc x c e)];exact I.freeC x c e
 ·obtain⟨e,n,r⟩:=I.pin p hp';exact⟨e,by rw[bO (hp p hp')];exact n,r⟩
noncomputable def aNv:HO->Prop
 |.lst _=>True
 |.tup _=>True
 |.dK _=>True
 |.frz _ (.lst _)=>True
 |.frz _ (.dK _)=>True
 |.ext _=>True
 |_=>False
def Smp(H:Hp):Prop:=∀b o,H b=some o->aNv o
theorem ObjOk.smp{P:AG}{w:AL}{h:BS}{a:BQ}{o:HO}(z:aNv o)(x:ObjOk P w H h a o):ObjOk P w F h a o:=by
 cases o with
 |lst xs=>exact x
 |tup xs=>exact x
 |dK kvs=>exact x
 |frz ob u=>cases u with
  |lst xs=>exact x
  |dK kvs=>exact x
  |_=>exact absurd z (λq=>q)
 |ext φ=>exact x
 |_=>exact absurd z (λq=>q)
theorem Smp.sub(h:Smp H)(s:Same F H):Smp F:=λb o e=>h b o (s b o e)
theorem Inv.less(I:Inv X pins σ H s)(hF:Same F H)(h0:Same X.B₀ F)(hs:Smp F):Inv X pins σ F s:=by
 refine⟨I.ok,I.os,I.bare,⟨I.base.keep,I.base.slot,λb u e n hx=>hF.free (I.base.free b u e n hx),I.base.there,λb xs e=>h0 _ _ (X.hB _ _ e trivial),λb u xs e=>h0 _ _ (X.hB _ _ e trivial),λb ps e=>⟨#[], ?_⟩⟩,I.loc,I.cell,hF.free I.free,λx c e=>hF.free (I.freeC x c e),λp hp=> ?_,λb o e=>(I.hok b o (hF b o e)).smp (hs b o e),I.len⟩
 ·have q:=h0 _ _ (X.hB _ _ e trivial);rw[q];simp
 ·obtain⟨e,n,r⟩:=I.pin p hp;exact⟨e,hF.free n,r⟩
end
noncomputable def clo(cells:List (Str×BQ)):List (Str×NameKind)->List (Str×BQ)->List (Str×BQ)
 |[],cs=>cs
 |(n,k)::r,cs=>clo cells r (if(k==NameKind.free)=true then(n,(cells.lookup n).getD 0)::cs else cs)
theorem qN{env:Env}:∀ (names:List (Str×NameKind)) (cs:List (Str×BQ)),(∀y∈names,y.2=.free->∃c,env.cells.lookup y.1=some c)->
  (forIn names cs (λ(x:Str×NameKind) (r:List (Str×BQ))=>if(x.2==NameKind.free)=true then(do let c <-cellOf env x.1;pure (ForInStep.yield ((x.1,c)::r))) else pure (ForInStep.yield r)):Sem (List (Str×BQ)))=pure (clo env.cells names cs)
 |[],cs,_=>rfl
 |(n,k)::r,cs,h=>by
  rw[xM]
  by_cases hk:(k==NameKind.free)=true
  ·obtain⟨c,hc⟩:=h (n,k) aH (by simpa using hk)
   have e:cellOf env n=pure c:=by unfold cellOf;have hc':env.cells.lookup n=some c:=hc;rw[hc']
   simp only[hk,if_true,e,pure_bind,clo];have hc':env.cells.lookup n=some c:=hc;rw[hc'];exact qN r _ λy hy=>h y (aI _ hy)
  ·simp only[hk,aR,if_false,pure_bind,clo];exact qN r _ λy hy=>h y (aI _ hy)
theorem aBU{env:Env}{scope:Scope}(h:∀y∈scope.names,y.2=.free->∃c,env.cells.lookup y.1=some c):closureFor scope env=pure (clo env.cells scope.names []):=by simp only[closureFor];have e:=qN (env:=env) scope.names [] h;simp only[bind_pure] ;exact e
theorem aBx(cells:List (Str×BQ)):∀ (names:List (Str×NameKind)) (cs:List (Str×BQ)) (x:Str) (c:BQ),(clo cells names cs).lookup x=some c->cs.lookup x=some c\/((x,NameKind.free)∈names/\c=(cells.lookup x).getD 0)
 |[],cs,x,c,h=>.inl h
 |(n,k)::r,cs,x,c,h=>by
  rcases aBx cells r _ x c h with q|⟨q1,q2⟩
  ·by_cases hk:(k==NameKind.free)=true
   ·rw[if_pos hk,eW] at q;have ek:k=.free:=by simpa using hk
    by_cases hx:(x==n)=true
    ·simp only[hx] at q;have e:x=n:=by simpa using hx
     subst e;exact .inr ⟨by rw[ek];exact aH,(cC.inj q).symm⟩
    ·have hx':(x==n)=false:=by simpa using hx
     simp only[hx'] at q;exact .inl q
   ·rw[if_neg hk] at q;exact .inl q
  ·exact .inr ⟨aI _ q1,q2⟩
theorem aDa(cells:List (Str×BQ)):∀ (names:List (Str×NameKind)) (cs:List (Str×BQ)) (x:Str),(x,NameKind.free)∈names\/(∃c,cs.lookup x=some c)->∃c,(clo cells names cs).lookup x=some c
 |[],cs,x,h=>h.elim (λz=>nomatch z) λz=>z
 |(n,k)::r,cs,x,h=>by
  refine aDa cells r _ x ?_
  by_cases hk:(k==NameKind.free)=true
  ·rw[if_pos hk]
   by_cases hx:(x==n)=true
   ·exact .inr ⟨(cells.lookup n).getD 0,by rw[eW];simp only[hx]⟩
   ·have hx':(x==n)=false:=by simpa using hx
    rcases h with q|⟨c,q⟩
    ·rcases aQ.mp q with z|z
     ·cases z;exact absurd (by simp) hx
     ·exact .inl z
    ·exact .inr ⟨c,by rw[eW];simp only[hx'];exact q⟩
  ·rw[if_neg hk]
   rcases h with q|q
   ·rcases aQ.mp q with z|z
    ·cases z;exact absurd rfl hk
    ·exact .inl z
   ·exact .inr q
theorem sE{env:Env}:∀ {names:List (Str × NameKind)} {x:Str},((names.map fun (n,k)=>if (k==NameKind.free && env.scope.kind== .function && env.kindOf n==some .cell) then (n,NameKind.cell) else (n,k)).lookup x=some .cell∨
   (names.map λ(n,k)=>if(k==NameKind.free&&env.scope.kind==.function&&env.kindOf n==some .cell) then(n,NameKind.cell) else(n,k)).lookup x=some .free)->names.lookup x=some .cell\/names.lookup x=some .free
 |[],x,h=>by simp at h
 |(n,k)::r,x,h=>by
  have ih:= @sE env r x;rw[aX] at h;rw[eW]
  by_cases hc:(k==NameKind.free&&env.scope.kind==.function&&env.kindOf n==some .cell)=true
  ·simp only[hc,if_true,eW] at h;cases hx:x==n with
   |true=>
    have hk:k=.free:=by have:=hc;simp only[bM,beq_iff_eq] at this;exact this.1.1
    exact .inr (by rw[hk])
   |false=>simp only[hx] at h ⊢;exact ih h
  ·have hc':(k==NameKind.free&&env.scope.kind==.function&&env.kindOf n==some .cell)=false:=by simpa using hc
   simp only[hc',aR,if_false,eW] at h;cases hx:x==n with
   |true=>simp only[hx] at h ⊢;exact h
   |false=>simp only[hx] at h ⊢;exact ih h
theorem aER{prog:AG}{w:AL}{A:BR}{R:Result->BP->Prop}{s:BP}{elt target iter:Expr}{ifs:List Expr}{scope:Scope}{pos:Pos}{it acc:BO}{env:Env}(Ξ:BO->BP->Prop)(hΞ:∀e s,Ξ e s->notedBy (AE prog w) A env (λe s'=>R (.error e) s') e s)(J:Nat->BP->Prop)
  (turn:∀n s,J n s→AH (AE prog w) A (pyNext it) (fun r s₁=>match r with
   |none=>R (.ok .next) s₁
   | some v=>AH (AE prog w) A (letOwnedTupleGo target it v) (fun _ s₂=>AH (AE prog w) A (assign target env v) (fun _ s₃=>
     AH (AE prog w) A (forIn ifs true fun c r=>if r=true then do let ok ← isTrue c env (eval c env); pure (ForInStep.yield ok) else pure (ForInStep.yield r)) (fun ok s₄=>
      if ok=true then AH (AE prog w) A (eval elt env) (λx s₅=>AH (AE prog w) A (call (.builtin "list.append") [acc,x]) (λ_ s₆=>∃m,m<n/\J m s₆) Ξ s₅) Ξ s₄
      else ∃m,m<n/\J m s₄) Ξ s₃) Ξ s₂) Ξ s₁) Ξ s)
  (n:Nat) (h:J n s):codeAny (AE prog w) A (.compLoop (.ListComp elt [⟨target,iter,ifs,0⟩] scope pos) 0 it acc env) R s:=by
 refine codeAny_loop rfl J (λn s hI=> ?_) n h;show AH _ A ((compTurn (.ListComp elt [⟨target,iter,ifs,0⟩] scope pos) 0 it acc env).onRaise (λx=>do noteFrame x env;theTreesLotGoes x)) _ _ s;refine wpAny_noted ?_;rw[compTurn_list];refine AA (wpAny_standAt (AA (Ah (turn n s hI) (λr s₁ h₁=> ?_) λe s z=>hΞ e s z)));cases r with
 |none=>exact AB h₁
 |some v=>
  refine AA (Ah h₁ (λ_ s₂ h₂=> ?_) λe s z=>hΞ e s z);refine AA (Ah h₂ (λ_ s₃ h₃=> ?_) λe s z=>hΞ e s z);refine AA (Ah h₃ (λok s₄ h₄=> ?_) λe s z=>hΞ e s z);cases ok with
  |false=>exact AB ⟨rfl,h₄⟩
  |true=>exact AA (AA (Ah h₄ (λx s₅ h₅=>AA (Ah h₅ (λ_ s₆ h₆=>AB (AB ⟨rfl,h₆⟩)) λe s z=>hΞ e s z)) λe s z=>hΞ e s z))
noncomputable def aNI(X:Cx)(ifs:List Expr):TT:=λσ H Q=>∀ (pins:List (BQ×BZ)) (s:BP),Inv X pins σ H s->
 AH (AE X.prog X.w) X.A (forIn ifs true λc r=>if r=true then do let ok <-isTrue c X.env (eval c X.env);pure (ForInStep.yield ok) else pure (ForInStep.yield r)) (TP X pins σ Q) X.xe s
theorem aGw{X:Cx}{σ:St}{H:Hp}{Q:Bool->Hp->Prop}(h:Q true H):aNI X [] σ H Q:=λ_ _ I=>wpAny_tests_nil ⟨H,I,h⟩
theorem aGg{X:Cx}{c:Expr}{σ:St}{H:Hp}{Q:Bool->Hp->Prop}(h:wT X c σ H Q):aNI X [c] σ H Q:=λpins s I=>wpAny_tests_one (h pins s I)
noncomputable def cxB(X:Cx)(N:List Str)(scope:Scope)(cl:List (Str×BQ))(C:BQ)(ex:List BQ)(s:BP)(H:Hp):Cx:=
 {prog:=X.prog,w:=X.w,K:=X.K,mg:=X.mg,base:=X.base,A:=X.A,N:=N,s₀:=s,H₀:=H,env:=compEnvC scope cl C X.env,outer:=X.stack,stack:=X.stack,ex:=ex,fn:=λ_=>false,calm:=true,pn:=[],xe:=λ_ _=>False}
noncomputable def pS(X:Cx)(N:List Str)(scope:Scope)(cl:List (Str×BQ))(C:BQ)(ex:List BQ)(s:BP)(H:Hp)(ξ:BO->BP->Prop):Cx:={cxB X N scope cl C ex s H with xe:=ξ}
noncomputable def xV(cap:List (Option Nat))(σ:St):St:=cap.map λo=>o.bind λk=>(σ[k]?).join
noncomputable def sR(scope sc:Scope):Bool:=scope.names.all λy=>(!(y.2==NameKind.free)||sc.names.lookup y.1==some NameKind.cell)&&!(y.2==NameKind.cell)&&(!(y.2==NameKind.local)||scope.names.lookup y.1==some NameKind.local)
noncomputable def oY(N M:List Str)(scope sc:Scope)(cap:List (Option Nat)):Bool:=cap.length==N.length&&(cap.zip N).all λy=>match y.1 with
 |none=>true
 |some k=>M[k]? ==some y.2&&sc.names.lookup y.2==some NameKind.cell&&scope.names.lookup y.2==some NameKind.free
theorem jI{env:Env}(hf:env.scope.kind=.function):∀ {names:List (Str×NameKind)}{x:Str},names.lookup x=some .free->env.kindOf x=some .cell->
  (names.map λ(n,k)=>if(k==NameKind.free&&env.scope.kind==.function&&env.kindOf n==some .cell) then(n,NameKind.cell) else(n,k)).lookup x=some .cell
 |[],x,h,_=>by simp at h
 |(n,k)::r,x,h,hc=>by
  rw[aX];cases hx:x==n with
  |true=>
   have e:x=n:=by simpa using hx
   subst e;rw[eW] at h;simp only[beq_self_eq_true] at h;have ek:k=.free:=cC.inj h;subst ek;have hb:(NameKind.free==NameKind.free&&env.scope.kind==.function&&env.kindOf x==some .cell)=true:=by rw[hf,hc];rfl
   show List.lookup x ((if(NameKind.free==NameKind.free&&env.scope.kind==.function&&env.kindOf x==some .cell)=true then(x,NameKind.cell) else(x,NameKind.free))::_)=_;rw[if_pos hb,eW];simp only[beq_self_eq_true]
  |false=>
   rw[eW] at h;simp only[hx] at h;have ih:=jI hf (names:=r) h hc
   by_cases hb:(k==NameKind.free&&env.scope.kind==.function&&env.kindOf n==some .cell)=true
   ·simp only[hb,if_true,eW,hx];exact ih
   ·have hb':(k==NameKind.free&&env.scope.kind==.function&&env.kindOf n==some .cell)=false:=by simpa using hb
    simp only[hb',aR,if_false,eW,hx];exact ih
theorem Inv.low{X:Cx}{pins:List (BQ×BZ)}{σ:St}{H:Hp}{s:BP}(I:Inv X pins σ H s):∀b∈frs X.stack,b<s.heap.objs.size:=λb hb=>by obtain⟨_,o,ho,_⟩:=I.stack.mem hb;exact aK ho
theorem aEX{X:Cx}{pins:List (BQ×BZ)}{σ:St}{H:Hp}{s:BP}{elt tg iter:Expr}{ifs:List Expr}{scope:Scope}{pos:Pos}{N:List Str}{cap:List (Option Nat)}{g:TG}{tt:TT}{te:TE}{J:It}{fp:List BQ}{it:BQ}{tn:Nat->BS->Prop}{E:BO->BP->Prop}{sc:Scope}(ξ:List (Str×BQ)->BQ->BO->BP->Prop)(ξ':List (Str×BQ)->BQ->BO->Hp->BP->Prop)
  (hc:X.calm=true) (hsc:X.env.scope=sc) (hcn:sR scope sc=true) (hcap:oY N X.N scope sc cap=true) (hk:scope.kind=.function)
  (I:Inv X pins σ H s) (T:aHc X.prog X.w X.K tg J fp it tn) (st:tn 0 s.heap) (hfp:∀b∈fp,uA X pins H b)
  (hg:∀cl C,PG (pS X N scope cl C fp s H (ξ cl C)) tg g) (ht:∀cl C pi s2 σ2 H2 Q,Inv (pS X N scope cl C fp s H (ξ cl C)) pi σ2 H2 s2->tt σ2 H2 Q->AH (AE X.prog X.w) X.A (forIn ifs true λc r=>if r=true then do let ok <-isTrue c (compEnvC scope cl C X.env) (eval c (compEnvC scope cl C X.env));pure (ForInStep.yield ok) else pure (ForInStep.yield r)) (TP (pS X N scope cl C fp s H (ξ cl C)) pi σ2 Q) (ξ cl C) s2)
  (he:∀cl C,PE (pS X N scope cl C fp s H (ξ cl C)) elt te) (W:Nat->Nat->List V->St->Hp->Prop) (m0:Nat) (w0:W 0 m0 [] (xV cap σ) H)
  (RR:BO->BQ->Result->BP->Prop)
  (hξ:∀cl C e s',ξ cl C e s'->∃pi σb H',Inv (pS X N scope cl C fp s H (ξ cl C)) pi σb H' s'/\ξ' cl C e H' s')
  (hx:∀cl D C e H' s',ξ' cl C e H' s'->H' C=none->X.s₀.heap.objs.size<=C->C≠X.env.locals->(∀x c,X.env.cells.lookup x=some c->c≠C)->(∀p∈X.pn++pins,p.1≠C)->C∉frs X.stack->(∃m,s'.heap.Ns C m)->Inv X pins σ H' s'->notedBy (AE X.prog X.w) X.A (compEnvC scope cl C X.env) (λe s''=>RR (.ref D) C (.error e) s'') e s')
  (turn:∀i m ys σb H2,W i m ys σb H2→
   (J.stop i H2/\∀D C s',H2 D=none->H2 C=none->D≠C->X.s₀.heap.objs.size<=C->C≠X.env.locals->(∀x c,X.env.cells.lookup x=some c->c≠C)->(∀p∈X.pn++pins,p.1≠C)->C∉frs X.stack->(∃m,s'.heap.Ns C m)->Inv X pins σ (upd H2 D (.lst ys)) s'->RR (.ref D) C (.ok .next) s')\/
   (J.go i H2∧ys.length<AM∧∃Nx:List V→St→Hp→Prop,(∀ys' σ' H',Nx ys' σ' H'→∃m',m'<m∧W (i+1) m' ys' σ' H')∧
    ∀x H',J.yld i H2 x H'->g x σb H' λσ2 H3=>tt σ2 H3 λb H4=>if b=true then te σ2 H4 λv H5=>Nx (ys++[v]) σ2 H5 else Nx ys σ2 H4)):
  AH (AE X.prog X.w) X.A (newList []) (fun acc s₃=>AH (AE X.prog X.w) X.A (newFunctionEnv scope X.env.globals (clo X.env.cells scope.names []) [] X.env.qual none .none (some X.env)) (fun cenv s₄=>
   codeAny (AE X.prog X.w) X.A (.compStart (.ListComp elt [⟨tg,iter,ifs,0⟩] scope pos) 0 (.ref it) acc {cenv with scope:=relabel scope X.env}) (RR acc cenv.locals) s₄) E s₃) E s:=by
 have nm:∀y∈scope.names,(y.2=NameKind.free->sc.names.lookup y.1=some NameKind.cell)/\y.2≠NameKind.cell/\(y.2=NameKind.local->scope.names.lookup y.1=some NameKind.local):=λy hy=>by have q:=gX.mp hcn y hy;simp only[bM,xP,aIl,beq_eq_false_iff_ne,ne_eq,beq_iff_eq] at q;exact⟨λe=>q.1.1.resolve_left λz=>z e,q.1.2,λe=>q.2.resolve_left λz=>z e⟩
 have fre:∀y∈scope.names,y.2=.free->∃c,X.env.cells.lookup y.1=some c:=λy hy e=>I.ok.has y.1 (.inl (by show X.env.scope.names.lookup y.1=_;rw[hsc];exact(nm y hy).1 e))
 generalize hcl:clo X.env.cells scope.names []=cl
 have csub:∀x c,cl.lookup x=some c->X.env.cells.lookup x=some c:=λx c e=>by
  rw[<-hcl] at e
  rcases aBx _ _ _ _ _ e with z|⟨z1,z2⟩
  ·simp at z
  ·obtain⟨c',q⟩:=fre _ z1 rfl;rw[q] at z2;rw[q,z2];rfl
 have chas:∀x,((relabel scope X.env).names.lookup x=some .cell\/(relabel scope X.env).names.lookup x=some .free)->∃c,cl.lookup x=some c:=λx e=>by
  rcases sE e with z|z
  ·exact absurd rfl (nm _ (PySem.mem_of_lookup z)).2.1
  ·rw[<-hcl];exact aDa _ _ _ _ (.inl (PySem.mem_of_lookup z))
 have cexi:∀x c,cl.lookup x=some c->c<s.heap.objs.size:=λx c e=>by obtain⟨v,o,ho,_⟩:=I.cell x c (csub x c e);exact aK ho
 have cexX:∀x c,X.env.cells.lookup x=some c->c<s.heap.objs.size:=λx c e=>by obtain⟨v,o,ho,_⟩:=I.cell x c e;exact aK ho
 have pexX:∀p∈X.pn++pins,p.1<s.heap.objs.size:=λp hp=>aK (I.pin p hp).1
 have flow:∀b∈fp,b<s.heap.objs.size:=λb hb=>by obtain⟨o,ho,_⟩:=T.obj 0 _ st b hb;exact aK ho
 have fstk:∀b∈fp,b∉frs X.stack:=λb hb z=>by
  obtain⟨_,f1,f2,_⟩:=hfp b hb
  rcases aQ.mp (I.stkSub b z) with q|q
  ·exact f1 q
  ·exact f2 q
 have hkr:(relabel scope X.env).kind=.function:=hk;refine AN (wpAny_newFunctionEnv (λy hy=>(nm y hy).2.1) (by intro y hy;simp at hy) (λh₁ hns₁ hsb₁=> ?_) hk);dsimp only at hns₁ hsb₁ ⊢;generalize hH2:s.heap.push {cls:=.type "list",dict:=none,data:=.seq ([]:List BO).toArray}=G2 at hns₁ hsb₁ ⊢;have hC:G2.objs.size=s.heap.objs.size+1:=by rw[<-hH2,iI]
 have hDC:s.heap.objs.size≠G2.objs.size:=by rw[hC];exact bH (jO _)
 have hCle:s.heap.objs.size<=G2.objs.size:=by rw[hC];exact kG _
 have neC:∀b,b<s.heap.objs.size->b≠G2.objs.size:=λb hb=>by rw[hC];exact bH (nT hb)
 have old:∀b o,s.heap.get? b=some o->h₁.get? b=some o:=λb o e=>hsb₁.extBut b o (neC b (aK e)) (aD _ (hH2▸aD _ e))
 have hacc:h₁.get? s.heap.objs.size=some {cls:=.type "list",dict:=none,data:=.seq ([]:List BO).toArray}:=hsb₁.extBut _ _ hDC (aD _ (hH2▸aZ _ rfl));have env_eq:({newEnv scope G2.objs.size X.env.globals cl X.env.qual none .none (some X.env) 0 with scope:=relabel scope X.env}:Env)=compEnvC scope cl G2.objs.size X.env:=rfl;generalize hDD:s.heap.objs.size=D at *;generalize hCC:G2.objs.size=C at *
 have okX:(pS X N scope cl C fp s H (ξ cl C)).Ok:=by
  refine⟨I.mod,hkr,I.ok.glob,I.ok.blt, ?_,λx y c a b=>I.ok.inj x y c (csub x c a) (csub y c b),chas,(λx c z=>nomatch z),λ_=>I.ok.hd hc,I.ok.frames,.inl rfl,λb hb=>⟨neC b (flow b hb),λx c e=>(hfp b hb).2.2.2.2.1 x c (csub x c e)⟩,I.bs, ?_,λb o e hb=> ?_,fstk,I.stack,I.stkFree⟩
  ·show s.heap.objs.size<=C;rw[hDD];exact hCle
  ·exact cO I.ok.bsz I.sz
  ·rcases(hfp b hb).2.2.2.1 with z|z
   ·exact I.ok.noex b o e z
   ·exact absurd (aY (aK e) (cO I.ok.bsz z)) (eA _)
 have capE:∀ (i:Nat) (x:Str) (v:V),N[i]? =some x->(xV cap σ)[i]? =some (some v)->∃k:Nat,X.N[k]? =some x/\σ[k]? =some (some v)/\sc.names.lookup x=some .cell/\scope.names.lookup x=some .free:=λi x v e1 e2=>by
  unfold oY at hcap;rw[bM] at hcap;unfold xV at e2;rw[bF] at e2;cases q:cap[i]? with
  |none=>rw[q] at e2;cases e2
  |some o=>
   rw[q] at e2;have e2:(o.bind λk=>(σ[k]?).join)=some v:=cC.inj e2;cases o with
   |none=>cases e2
   |some k=>
    have e2:(σ[k]?).join=some v:=e2
    have mz:(some k,x)∈cap.zip N:=by refine bD (i:=i) ?_;rw[aAh];exact⟨q,e1⟩
    have z:=gX.mp hcap.2 _ mz;simp only[bM,beq_iff_eq] at z;refine⟨k,z.1.1, ?_,z.1.2,z.2⟩;cases w:σ[k]? with
    |none=>rw[w] at e2;cases e2
    |some o'=>rw[w] at e2;have e2:o'=some v:=e2;rw[e2]
 have I0:Inv (pS X N scope cl C fp s H (ξ cl C)) [(D,{cls:=.type "list",dict:=none,data:=.seq ([]:List BO).toArray})] (xV cap σ) H {s with heap:=h₁,toks:=s.toks+([]:List (Str×BO)).length}:=by
  have dfree:H D=none:=I.hok.fresh (aFc hDD);refine⟨okX,rfl,I.bare,Un.kept old,⟨_,hns₁,λi x v e1 e2 e3=> ?_⟩,λx c e=> ?_,I.hok.fresh (by rw[hDD];exact hCle),λx c e=>I.freeC x c (csub x c e),λp hp=> ?_,I.hok.kept old, ?_⟩
  ·obtain⟨k,q1,q2,q3,q4⟩:=capE i x v e1 e2;have q3':X.env.scope.names.lookup x=some .cell:=by rw[hsc];exact q3
   obtain⟨m,_,hl⟩:=I.loc;obtain⟨u,ru,lk⟩:=hl k x v q1 q2 (.inr (.inl q3'));refine⟨u,ru,.inr ⟨.inl (jI I.ok.kind q4 q3'), ?_⟩⟩
   rcases lk with⟨z,_⟩|⟨_,c,z,ic⟩
   ·have z':X.env.scope.names.lookup x=some .local:=z;rw[q3'] at z';cases z'
   ·obtain⟨c',hc'⟩:=chas x (.inl (jI I.ok.kind q4 q3'));have:=csub x c' hc';rw[z] at this;have ec:c=c':=cC.inj this;subst ec;obtain⟨o,ho,hd⟩:=ic;exact⟨c,hc',o,old c o ho,hd⟩
  ·obtain⟨v,o,ho,hd⟩:=I.cell x c (csub x c e);exact⟨v,o,old c o ho,hd⟩
  ·have hp':p=(D,{cls:=.type "list",dict:=none,data:=.seq ([]:List BO).toArray}):=by simpa[pS,cxB] using hp
   subst hp';refine⟨hacc,dfree,hDC,λz=> ?_,λv z=>by cases z⟩;have:=I.low D z;rw[hDD] at this;exact eA _ this
  ·show(xV cap σ).length=N.length;unfold oY at hcap;rw[bM] at hcap;unfold xV;rw[aB];simpa using hcap.1
 have dlow:∀b,b<D->b≠D:=λb hb=>bH hb
 have loop:∀s₃:BP,s₃={s with heap:=h₁,toks:=s.toks+([]:List (Str×BO)).length}->
   codeAny (AE X.prog X.w) X.A (.compLoop (.ListComp elt [⟨tg,iter,ifs,0⟩] scope pos) 0 (.ref it) (.ref D) (compEnvC scope cl C X.env)) (RR (.ref D) C) s₃:=by
  rintro s₃ rfl
  refine aER (ξ cl C) (λe s' z=> ?_) (λn s'=>∃ (i:Nat) (ys:List V) (σb:St) (H2:Hp) (its:List BO) (nn:Nat),Inv (pS X N scope cl C fp s H (ξ cl C)) [(D,{cls:=.type "list",dict:=none,data:=.seq its.toArray nn})] σb H2 s'/\tn i s'.heap/\(∀b∈fp,H2 b=none)/\Vals ys its/\ys.length<=AM/\W i n ys σb H2) ?_ m0
   ⟨0,[],xV cap σ,H,[],0,I0,T.keep 0 _ _ st λb hb o e=>old b o e,λb hb=>(hfp b hb).1,.nil,bS _,w0⟩
  ·obtain⟨pi,σb,H',I',z'⟩:=hξ cl C e s' z;obtain⟨m4,ns4,_⟩:=id I'.loc;have J0:Inv X pins σ H' s':=I.call' (ch:=fp) I'.os I'.base I'.hok I'.bare λb hb=>⟨(hfp b hb).2.2.2.1,(hfp b hb).2.1,(hfp b hb).2.2.2.2.1,(hfp b hb).2.2.2.2.2⟩
   have hLD:X.env.locals<D:=by rw[<-hDD];exact I.lt
   exact hx cl D C e H' s' z' I'.free (cO I.sz (by rw[hDD];exact hCle)) (gG (aY hLD hCle)) (λx c e=>neC c (cexX x c e)) (λp hp=>neC _ (pexX p hp)) (λz=>absurd (I.low C z) (by rw[hDD];exact aBG.mpr hCle)) ⟨m4,ns4⟩ J0
  rintro n s3 ⟨i,ys,σ3,H3,its,nn,I3,st3,fr3,rv3,hlen,w3⟩
  have fpX:∀ {H':Hp}{its':List BO}{nn':Nat},(∀b∈fp,H' b=none)->∀b∈fp,uA (pS X N scope cl C fp s H (ξ cl C)) [(D,{cls:=.type "list",dict:=none,data:=.seq its'.toArray nn'})] H' b:=λ{H' its' nn'} hn b hb=>by
   refine⟨hn b hb,neC b (flow b hb),fstk b hb,.inl hb,λx c e=>(hfp b hb).2.2.2.2.1 x c (csub x c e),λp hp=> ?_⟩
   have hp':p.1=D:=by have q:p∈([]:List (BQ×BZ))++[(D,{cls:=.type "list",dict:=none,data:=.seq its'.toArray nn'})]:=hp;rw[xN,aJ] at q;rw[q]
   rw[hp'];exact Ne.symm (dlow b (flow b hb))
  rcases turn i n ys σ3 H3 w3 with⟨stop,fin⟩|⟨go,hsz,Nx,hN,step⟩
  ·refine thn (T.done (pS X N scope cl C fp s H (ξ cl C)) rfl rfl rfl rfl i _ s3 σ3 H3 (ξ cl C) I3 (fpX fr3) st3 stop) λr s4 ⟨hr,I4⟩=> ?_
   subst hr;obtain⟨m4,ns4,_⟩:=id I4.loc;have J0:Inv X pins σ H3 s4:=I.call' (ch:=fp) I4.os I4.base I4.hok I4.bare λb hb=>⟨(hfp b hb).2.2.2.1,(hfp b hb).2.1,(hfp b hb).2.2.2.2.1,(hfp b hb).2.2.2.2.2⟩
   obtain⟨pd,pn,_⟩:=I4.pin (D,_) (aS _ aH);have hLD:X.env.locals<D:=by rw[<-hDD];exact I.lt
   refine fin D C s4 pn I4.free hDC (cO I.sz (by rw[hDD];exact hCle)) (gG (aY hLD hCle)) (λx c e=>neC c (cexX x c e)) (λp hp=>neC _ (pexX p hp)) (λz=>absurd (I.low C z) (by rw[hDD];exact aBG.mpr hCle)) ⟨m4,ns4⟩ ?_;refine J0.track pn (by rw[<-hDD];exact I.sz) (gG hLD) (λx c e=>dlow c (cexX x c e)) (λp hp=>dlow _ (pexX p hp)) ?_;exact⟨hlen,its,nn,rv3,pd⟩
  ·refine thn (T.item (pS X N scope cl C fp s H (ξ cl C)) rfl rfl rfl rfl i _ s3 σ3 H3 (ξ cl C) I3 (fpX fr3) st3 go) λr s4 ⟨u,hr,h4⟩=> ?_
   subst hr;refine thn h4 λ_ s5 ⟨x,H5,I5,r5,y5,st5,fr5⟩=> ?_
   have I5':=I5.pinned (fpX fr5) (T.obj _ _ st5);refine thn (hg cl C _ s5 σ3 H5 x u _ I5' r5 (step x H5 y5)) λ_ s6 ⟨σ6,H6,I6,q6⟩=> ?_
   refine thn (ht cl C _ s6 σ6 H6 _ I6 q6) λb s7 ⟨H7,I7,q7⟩=> ?_
   have tnK:∀ {σ7:St}{H7:Hp}{s7:BP},Inv (pS X N scope cl C fp s H (ξ cl C)) ([(D,{cls:=.type "list",dict:=none,data:=.seq its.toArray nn})]++oB fp s5.heap) σ7 H7 s7->tn (i+1) s7.heap/\∀b∈fp,H7 b=none:=λ{σ7 H7 s7} I7=>by refine⟨T.keep _ _ _ st5 λb hb o e=>(I7.pin (b,o) (aS _ (aS _ (jQ hb e)))).1,λb hb=> ?_⟩;obtain⟨o,e,d⟩:=T.obj _ _ st5 b hb;exact(I7.pin (b,o) (aS _ (aS _ (jQ hb e)))).2.1
   cases b with
   |false=>have q7':Nx ys σ6 H7:=q7;obtain⟨m',hm,w7⟩:=hN _ _ _ q7';obtain⟨t7,f7⟩:=tnK I7;exact⟨m',hm,i+1,ys,σ6,H7,its,nn,I7.unpinned,t7,f7,rv3,hlen,w7⟩
   |true=>
    have q7':te σ6 H7 λv H5=>Nx (ys++[v]) σ6 H5:=q7
    refine thn (he cl C _ s7 σ6 H7 _ I7 q7') λy s8 ⟨v,H8,I8,r8,q8⟩=> ?_
    obtain⟨m',hm,w8⟩:=hN _ _ _ q8;obtain⟨pd,pn,pL,pf,pc⟩:=I8.pin (D,{cls:=.type "list",dict:=none,data:=.seq its.toArray nn}) (aS _ (bZ _ aH));have hits:its.length=ys.length:=rv3.length.symm;refine wpAny_list_append_plain (items:=its.toArray) ⟨nn,pd⟩ (λh9 pl9 sb9=> ?_) (by rw[aW,hits];exact cW hsz);obtain⟨n9,e9⟩:=pl9
    have e9':h9.get? D=some {cls:=.type "list",dict:=none,data:=.seq (its++[y]).toArray n9}:=by rw[e9];simp
    have I8':Inv (pS X N scope cl C fp s H (ξ cl C)) (oB fp s5.heap) σ6 H8 s8:=I8.pins_of λp hp=>I8.pin p (aS _ (aS _ hp))
    have I9:Inv (pS X N scope cl C fp s H (ξ cl C)) (oB fp s5.heap) σ6 H8 {s8 with heap:=h9,toks:=s8.toks}:=I8'.turned (it:=D) (λb o hb e=>sb9.extBut b o hb e) pn hDC (.inr (by rw[<-hDD];exact aM _)) (λx c e=>dlow c (cexi x c e)) λp hp=>by
     have hp':p∈oB fp s5.heap:=by simpa[pS,cxB] using hp
     exact dlow _ (flow _ (tL hp').1)
    have tn9:tn (i+1) h9:=T.keep _ _ _ st5 λb hb o e=>(I9.pin (b,o) (aS _ (jQ hb e))).1
    have fr9:∀b∈fp,H8 b=none:=λb hb=>by obtain⟨o,e,d⟩:=T.obj _ _ st5 b hb;exact(I9.pin (b,o) (aS _ (jQ hb e))).2.1
    refine⟨m',hm,i+1,ys++[v],σ6,H8,its++[y],n9,I9.pins_of λp hp=> ?_,tn9,fr9,Vals.append rv3 (.cons r8 .nil),by rw[bB];exact hsz,w8⟩;have hp':p=(D,{cls:=.type "list",dict:=none,data:=.seq (its++[y]).toArray n9}):=aJ.mp hp;subst hp';exact⟨e9',pn,pL,pf,λv z=>by cases z⟩
 exact codeAny_compStart_list (loop _ rfl) (T.self _ 0 _ _ _ (T.keep 0 _ _ st λb hb o e=>old b o e) (loop _ rfl))
theorem aGD{X:Cx}{pins:List (BQ×BZ)}{σ:St}{H:Hp}{s:BP}{elt tg iter:Expr}{ifs:List Expr}{scope:Scope}{pos:Pos}{N:List Str}{cap:List (Option Nat)}{g:TG}{tt:TT}{te:TE}{J:It}{fp:List BQ}{it:BQ}{tn:Nat->BS->Prop}{E:BO->BP->Prop}{sc:Scope}
  (hc:X.calm=true) (hsc:X.env.scope=sc) (hcn:sR scope sc=true) (hcap:oY N X.N scope sc cap=true) (hk:scope.kind=.function)
  (I:Inv X pins σ H s) (T:aHc X.prog X.w X.K tg J fp it tn) (st:tn 0 s.heap) (hfp:∀b∈fp,uA X pins H b)
  (hg:∀cl C,PG (cxB X N scope cl C fp s H) tg g) (ht:∀cl C pi s2 σ2 H2 Q,Inv (cxB X N scope cl C fp s H) pi σ2 H2 s2->tt σ2 H2 Q->AH (AE X.prog X.w) X.A (forIn ifs true λc r=>if r=true then do let ok <-isTrue c (compEnvC scope cl C X.env) (eval c (compEnvC scope cl C X.env));pure (ForInStep.yield ok) else pure (ForInStep.yield r)) (TP (cxB X N scope cl C fp s H) pi σ2 Q) (λ_ _=>False) s2)
  (he:∀cl C,PE (cxB X N scope cl C fp s H) elt te) (W:Nat->Nat->List V->St->Hp->Prop) (m0:Nat) (w0:W 0 m0 [] (xV cap σ) H)
  (RR:BO->BQ->Result->BP->Prop)
  (turn:∀i m ys σb H2,W i m ys σb H2→
   (J.stop i H2/\∀D C s',H2 D=none->H2 C=none->D≠C->X.s₀.heap.objs.size<=C->C≠X.env.locals->(∀x c,X.env.cells.lookup x=some c->c≠C)->(∀p∈X.pn++pins,p.1≠C)->C∉frs X.stack->(∃m,s'.heap.Ns C m)->Inv X pins σ (upd H2 D (.lst ys)) s'->RR (.ref D) C (.ok .next) s')\/
   (J.go i H2∧ys.length<AM∧∃Nx:List V→St→Hp→Prop,(∀ys' σ' H',Nx ys' σ' H'→∃m',m'<m∧W (i+1) m' ys' σ' H')∧
    ∀x H',J.yld i H2 x H'->g x σb H' λσ2 H3=>tt σ2 H3 λb H4=>if b=true then te σ2 H4 λv H5=>Nx (ys++[v]) σ2 H5 else Nx ys σ2 H4)):
  AH (AE X.prog X.w) X.A (newList []) (fun acc s₃=>AH (AE X.prog X.w) X.A (newFunctionEnv scope X.env.globals (clo X.env.cells scope.names []) [] X.env.qual none .none (some X.env)) (fun cenv s₄=>
   codeAny (AE X.prog X.w) X.A (.compStart (.ListComp elt [⟨tg,iter,ifs,0⟩] scope pos) 0 (.ref it) acc {cenv with scope:=relabel scope X.env}) (RR acc cenv.locals) s₄) E s₃) E s:=
 aEX (λ_ _ _ _=>False) (λ_ _ _ _ _=>False) hc hsc hcn hcap hk I T st hfp hg ht he W m0 w0 RR (λ_ _ _ _ z=>z.elim) (λ_ _ _ _ _ _ z=>z.elim) turn
end L2
namespace DL
open PySem PySem.Spec PyProof.Rows L2
noncomputable abbrev St:=L2.St
inductive D where
 |non|bl (b:Bool)|int (i:Int)|str (x:Str)|tup (ds:List D)|lst (ds:List D)|dic|scr (ns:List Int)|dki (ks:List Key) (ds:List D)|any (G:V->Hp->Prop)
mutual
noncomputable def Rep(K:aA)(H:Hp):D->V->Prop
 |.non,v=>v=.non
 |.bl b,v=>v=.bl b
 |.int i,v=>v=.int i
 |.str x,v=>v=.str x
 |.tup ds,v=>∃a xs,v=.ref a/\H a=some (.tup xs)/\RepL K H ds xs
 |.lst ds,v=>∃a xs,v=.ref a/\H a=some (.lst xs)/\RepL K H ds xs
 |.dic,v=>∃a,v=.ref a/\H a=some (.dK [])
 |.dki ks ds,v=>∃a xs,v=.ref a/\(∃ob,H a=some (.frz ob (.dK (ks.zip xs))))/\ks.length=ds.length/\RepL K H ds xs
 |.scr ns,v=>∃a,v=.ref a/\SqL K H a (ns.map V.int)
 |.any G,v=>(∃a,v=.ref a)/\∀H',Same H H'->G v H'
noncomputable def RepL(K:aA)(H:Hp):List D->List V->Prop
 |[],xs=>xs=[]
 |d::ds,xs=>∃y ys,xs=y::ys/\Rep K H d y/\RepL K H ds ys
end
mutual
theorem Rep.mono{K:aA}{H H':Hp}(h:Same H H'):∀ {d:D}{v:V},Rep K H d v->Rep K H' d v
 |.non,_,r=>by simpa only[Rep] using r
 |.bl _,_,r=>by simpa only[Rep] using r
 |.int _,_,r=>by simpa only[Rep] using r
 |.str _,_,r=>by simpa only[Rep] using r
 |.tup ds,v,r=>by simp only[Rep] at r ⊢;obtain⟨a,xs,e,q,rl⟩:=r;exact⟨a,xs,e,h _ _ q,RepL.mono h rl⟩
 |.lst ds,v,r=>by simp only[Rep] at r ⊢;obtain⟨a,xs,e,q,rl⟩:=r;exact⟨a,xs,e,h _ _ q,RepL.mono h rl⟩
 |.dki ks ds,v,r=>by simp only[Rep] at r ⊢;obtain⟨a,xs,e,⟨ob,q⟩,l,rl⟩:=r;exact⟨a,xs,e,⟨ob,h _ _ q⟩,l,RepL.mono h rl⟩
 |.dic,v,r=>by simp only[Rep] at r ⊢;obtain⟨a,e,q⟩:=r;exact⟨a,e,h _ _ q⟩
 |.any G,v,r=>by simp only[Rep] at r ⊢;exact⟨r.1,λH2 s=>r.2 H2 (h.trans s)⟩
 |.scr ns,v,r=>by simp only[Rep] at r ⊢;obtain⟨a,e,q⟩:=r;exact⟨a,e,h.seq q⟩
theorem RepL.mono{K:aA}{H H':Hp}(h:Same H H'):∀ {ds:List D}{xs:List V},RepL K H ds xs->RepL K H' ds xs
 |[],_,r=>by simpa only[RepL] using r
 |d::ds,xs,r=>by simp only[RepL] at r ⊢;obtain⟨y,ys,e,q,rl⟩:=r;exact⟨y,ys,e,Rep.mono h q,RepL.mono h rl⟩
end
theorem RepL.len{K:aA}{H:Hp}:∀ {ds:List D}{xs:List V},RepL K H ds xs->xs.length=ds.length
 |[],_,r=>by simp only[RepL] at r;rw[r];rfl
 |d::ds,xs,r=>by simp only[RepL] at r;obtain⟨y,ys,rfl,_,q⟩:=r;simp only[bU,RepL.len q]
theorem RepL.get{K:aA}{H:Hp}:∀ {ds:List D}{xs:List V}{i:Nat}{d:D},RepL K H ds xs->ds[i]? =some d->∃v,xs[i]? =some v/\Rep K H d v
 |[],_,i,d,r,e=>by simp at e
 |d'::ds,xs,i,d,r,e=>by
  simp only[RepL] at r;obtain⟨y,ys,rfl,q,rl⟩:=r;cases i with
  |zero=>simp at e;subst e;exact⟨y,rfl,q⟩
  |succ i=>
   have e':ds[i]? =some d:=by simpa using e
   obtain⟨v,h1,h2⟩:=RepL.get rl e';exact⟨v,by simpa using h1,h2⟩
theorem RepL.app{K:aA}{H:Hp}:∀ {ds es:List D}{xs ys:List V},RepL K H ds xs->RepL K H es ys->RepL K H (ds++es) (xs++ys)
 |[],es,xs,ys,r,q=>by simp only[RepL] at r;subst r;exact q
 |d::ds,es,xs,ys,r,q=>by simp only[RepL] at r;obtain⟨y,zs,rfl,a,rl⟩:=r;show RepL K H (d::(ds++es)) (y::(zs++ys));simp only[RepL];exact⟨y,_,rfl,a,RepL.app rl q⟩
theorem RepL.nil{K:aA}{H:Hp}:RepL K H [] []:=by simp only[RepL]
theorem RepL.cons{K:aA}{H:Hp}{d:D}{ds:List D}{x:V}{xs:List V}(a:Rep K H d x)(b:RepL K H ds xs):RepL K H (d::ds) (x::xs):=by simp only[RepL];exact⟨x,xs,rfl,a,b⟩
theorem RepL.one{K:aA}{H:Hp}{d:D}{x:V}(a:Rep K H d x):RepL K H [d] [x]:=.cons a .nil
theorem RepL.uncons{K:aA}{H:Hp}{d:D}{ds:List D}{xs:List V}(r:RepL K H (d::ds) xs):∃y ys,xs=y::ys/\Rep K H d y/\RepL K H ds ys:=by simpa only[RepL] using r
theorem RepL.take{K:aA}{H:Hp}:∀ {ds:List D}{xs:List V} (n:Nat),RepL K H ds xs->RepL K H (ds.take n) (xs.take n)
 |_,_,0,_=>by simp only[aNe];exact .nil
 |[],xs,n+1,r=>by simp only[RepL] at r;subst r;exact .nil
 |d::ds,xs,n+1,r=>by obtain⟨y,ys,rfl,a,rl⟩:=r.uncons;simp only[aFi];exact .cons a (RepL.take n rl)
theorem RepL.drop{K:aA}{H:Hp}:∀ {ds:List D}{xs:List V} (n:Nat),RepL K H ds xs->RepL K H (ds.drop n) (xs.drop n)
 |_,_,0,r=>by simpa only[List.drop_zero] using r
 |[],xs,n+1,r=>by simp only[RepL] at r;subst r;exact .nil
 |d::ds,xs,n+1,r=>by obtain⟨y,ys,rfl,a,rl⟩:=r.uncons;simp only[List.drop_succ_cons];exact RepL.drop n rl
theorem RepL.ints{K:aA}{H:Hp}:∀ {ns:List Int}{xs:List V},RepL K H (ns.map D.int) xs->xs=ns.map V.int
 |[],xs,r=>by simpa only[fU,RepL] using r
 |n::ns,xs,r=>by rw[aX] at r;obtain⟨y,ys,rfl,a,rl⟩:=r.uncons;simp only[Rep] at a;rw[a,RepL.ints rl];rfl
inductive Slot where
 |un|val (d:D)|own (l:BQ) (ds:List D)|gh (d:D) (G:V->Hp->Prop)|od (l:BQ) (ks:List Key) (ds:List D)|ox (ls:List BQ) (G:V->Hp->Hp->Prop)
noncomputable def Wr(l:BQ):HO->Prop
 |.lst _=>True
 |.dK _=>True
 |.ext φ=>∃o:BZ,φ=(λh=>h.get? l=some o)/\∀v,o.data≠ .cell v
 |_=>False
noncomputable def iT(K:aA)(F H:Hp):Slot->Option V->Prop
 |.un,_=>True
 |.val d,o=>∃v,o=some v/\Rep K F d v
 |.own l ds,o=>o=some (.ref l)/\F l=none/\∃xs,H l=some (.lst xs)/\RepL K F ds xs
 |.od l ks ds,o=>o=some (.ref l)/\F l=none/\∃xs,H l=some (.dK (ks.zip xs))/\ks.length=ds.length/\RepL K F ds xs
 |.gh d G,o=>∃v,o=some v/\Rep K F d v/\∀F',Same F F'->G v F'
 |.ox ls G,o=>∃v,o=some v/\(∀l∈ls,F l=none/\∃ob,H l=some ob/\Wr l ob)/\∀F' H',Same F F'->(∀l∈ls,∀ob,H l=some ob->H' l=some ob)->G v F' H'
noncomputable def SlotsOk(K:aA)(F H:Hp):List Slot->St->Prop
 |[],σ=>σ=[]
 |z::zs,σ=>∃o r,σ=o::r/\iT K F H z o/\SlotsOk K F H zs r
noncomputable def iH:Slot->List BQ
 |.own l _=>[l]
 |.od l _ _=>[l]
 |.ox ls _=>ls
 |_=>[]
noncomputable def cE(sd:List Slot):List BQ:=sd.flatMap iH
theorem qI(z:Slot)(zs:List Slot):cE (z::zs)=iH z++cE zs:=rfl
structure StF(K:aA)(H₀ F H:Hp)(σ:St)(sd:List Slot):Prop where
 base:Same H₀ F
 sub:Same F H
 smp:Smp H
 slots:SlotsOk K F H sd σ
 nd:(cE sd).Nodup
section
variable {K:aA}{H₀ F F' H H':Hp}{σ:St}{sd:List Slot}
theorem SlotsOk.get:∀ {sd:List Slot}{σ:St}{i:Nat}{z:Slot},SlotsOk K F H sd σ->sd[i]? =some z->∃o,σ[i]? =some o/\iT K F H z o
 |[],_,_,_,_,e=>by simp at e
 |z'::zs,σ,i,z,h,e=>by
  obtain⟨o,r,rfl,a,b⟩:=h;cases i with
  |zero=>simp at e;subst e;exact⟨o,rfl,a⟩
  |succ i=>obtain⟨o',h1,h2⟩:=SlotsOk.get (i:=i) b (by simpa using e);exact⟨o',by simpa using h1,h2⟩
theorem SlotsOk.set{z:Slot}{o:Option V}(q:iT K F H z o):∀ {sd:List Slot}{σ:St} (i:Nat),SlotsOk K F H sd σ->SlotsOk K F H (sd.set i z) (σ.set i o)
 |[],_,_,h=>by have h:_=_:=h;subst h;rfl
 |z'::zs,σ,i,h=>by
  obtain⟨o',r,rfl,a,b⟩:=h;cases i with
  |zero=>exact⟨o,r,rfl,q,b⟩
  |succ i=>exact⟨o',_,rfl,a,SlotsOk.set q i b⟩
theorem SlotsOk.mono(hF:Same F F'):∀ {sd:List Slot}{σ:St},(∀l∈cE sd,F' l=none/\∀xs,H l=some xs->H' l=some xs)->SlotsOk K F H sd σ->SlotsOk K F' H' sd σ
 |[],_,_,h=>h
 |z::zs,σ,ho,h=>by
  obtain⟨o,r,rfl,a,b⟩:=h;refine⟨o,r,rfl, ?_,SlotsOk.mono hF (λl hl=>ho l ?_) b⟩
  ·cases z with
   |un=>trivial
   |val d=>obtain⟨v,e,q⟩:=a;exact⟨v,e,q.mono hF⟩
   |gh d G=>obtain⟨v,e,q,g⟩:=a;exact⟨v,e,q.mono hF,λF2 s2=>g F2 (hF.trans s2)⟩
   |own l ds=>obtain⟨e,n,xs,q,rl⟩:=a;have:=ho l (by simp[qI,iH]);exact⟨e,this.1,xs,this.2 _ q,rl.mono hF⟩
   |od l ks ds=>obtain⟨e,n,xs,q,ln,rl⟩:=a;have:=ho l (by simp[qI,iH]);exact⟨e,this.1,xs,this.2 _ q,ln,rl.mono hF⟩
   |ox ls G=>
    obtain⟨v,e,h,g⟩:=a;have ho':∀l∈ls,F' l=none/\∀xs,H l=some xs->H' l=some xs:=λl hl=>ho l (bZ _ hl)
    exact⟨v,e,λl hl=>⟨(ho' l hl).1,let ⟨ob,q,w⟩:=(h l hl).2;⟨ob,(ho' l hl).2 _ q,w⟩⟩,λF2 H2 s2 k=>g F2 H2 (hF.trans s2) λl hl ob q=>k l hl ob ((ho' l hl).2 _ q)⟩
  ·exact aS _ hl
theorem SlotsOk.owns:∀ {sd:List Slot}{σ:St}{l:BQ},SlotsOk K F H sd σ->l∈cE sd->F l=none/\∃ob,H l=some ob/\Wr l ob
 |[],_,_,_,e=>by simp[cE] at e
 |z::zs,σ,l,h,e=>by
  obtain⟨o,r,rfl,a,b⟩:=h
  rcases bC.mp (show l∈iH z++cE zs from e) with e|e
  ·cases z with
   |un=>cases e
   |val d=>cases e
   |gh d G=>cases e
   |own l' ds=>rw[aJ.mp e];obtain⟨_,n,xs,q,_⟩:=a;exact⟨n,_,q,trivial⟩
   |od l' ks ds=>rw[aJ.mp e];obtain⟨_,n,xs,q,_⟩:=a;exact⟨n,_,q,trivial⟩
   |ox ls G=>obtain⟨v,_,h,_⟩:=a;exact h l e
  ·exact SlotsOk.owns b e
theorem StF.lay{p:BQ}{o:HO}(S:StF K H₀ F H σ sd)(hp:H p=none)(ho:aNv o):StF K H₀ (upd F p o) (upd H p o) σ sd/\Same F (upd F p o):=by
 have fp:F p=none:=S.sub.free hp;have s1:Same F (upd F p o):=λb u e=>by rw[bO (cH e fp)];exact e
 refine⟨⟨λb u e=>s1 _ _ (S.base _ _ e),λb u e=> ?_,λb u e=> ?_,S.slots.mono s1 λl hl=> ?_,S.nd⟩,s1⟩
 ·by_cases h:b=p
  ·subst h;rw[cD] at e ⊢;exact e
  ·rw[bO h] at e ⊢;exact S.sub _ _ e
 ·by_cases h:b=p
  ·subst h;rw[cD] at e;cases e;exact ho
  ·rw[bO h] at e;exact S.smp _ _ e
 ·obtain⟨n,xs,q,_⟩:=S.slots.owns hl;have hne:l≠p:=cH q hp;exact⟨by rw[bO hne];exact n,λys e=>by rw[bO hne];exact e⟩
theorem StF.layO{p:BQ}{xs:List V}(S:StF K H₀ F H σ sd)(hp:H p=none):StF K H₀ F (upd H p (.lst xs)) σ sd/\F p=none/\p∉cE sd:=by
 have fp:F p=none:=S.sub.free hp;refine⟨⟨S.base,λb u e=> ?_,λb u e=> ?_,S.slots.mono (Same.refl _) λl hl=> ?_,S.nd⟩,fp,λhl=> ?_⟩
 ·rw[bO (cH e fp)];exact S.sub _ _ e
 ·by_cases h:b=p
  ·subst h;rw[cD] at e;cases e;trivial
  ·rw[bO h] at e;exact S.smp _ _ e
 ·obtain⟨n,ys,q,_⟩:=S.slots.owns hl;have hne:l≠p:=cH q hp;exact⟨n,λys e=>by rw[bO hne];exact e⟩
 ·obtain⟨n,ys,q,_⟩:=S.slots.owns hl;rw[hp] at q;cases q
theorem StF.freeze{p:BQ}{xs:List V}(S:StF K H₀ F H σ sd)(hp:H p=some (.lst xs))(fp:F p=none)(ho:p∉cE sd):StF K H₀ (upd F p (.lst xs)) H σ sd/\Same F (upd F p (.lst xs)):=by
 have s1:Same F (upd F p (.lst xs)):=λb u e=>by rw[bO (cH e fp)];exact e
 refine⟨⟨λb u e=>s1 _ _ (S.base _ _ e),λb u e=> ?_,S.smp,S.slots.mono s1 λl hl=> ?_,S.nd⟩,s1⟩
 ·by_cases h:b=p
  ·subst h;rw[cD] at e;rw[hp];exact e
  ·rw[bO h] at e;exact S.sub _ _ e
 ·obtain⟨n,ys,q,_⟩:=S.slots.owns hl;have hne:l≠p:=λz=>ho (z▸hl)
  exact⟨by rw[bO hne];exact n,λys e=>e⟩
theorem SlotsOk.len:∀ {sd:List Slot}{σ:St},SlotsOk K F H sd σ->σ.length=sd.length
 |[],_,h=>by have h:_=_:=h;rw[h];rfl
 |z::zs,σ,h=>by obtain⟨o,r,rfl,_,b⟩:=h;simp[SlotsOk.len b]
end
inductive R where
 |val (d:D)|own (ds:List D)|bor (ds:List D)|pr (d:D) (ls:List D)|ox (G:V->List BQ->Hp->Hp->Prop)
def LOk(K:aA)(F H:Hp)(sd:List Slot)(v:V)(ds:List D):Prop:=
 ∃l xs,v=.ref l/\H l=some (.lst xs)/\RepL K F ds xs/\(F l=some (.lst xs)\/Slot.own l ds∈sd)
noncomputable def ResOk(K:aA)(F H:Hp)(sd:List Slot):R->V->Prop
 |.val d,v=>Rep K F d v
 |.own ds,v=>∃l xs,v=.ref l/\F l=none/\H l=some (.lst xs)/\RepL K F ds xs/\l∉cE sd
 |.bor ds,v=>LOk K F H sd v ds
 |.pr d ls,v=>∃t l xs y,v=.ref t/\F t=some (.tup [y,.ref l])/\Rep K F d y/\F l=none/\H l=some (.lst xs)/\RepL K F ls xs/\l∉cE sd
 |.ox G,v=>∃ls:List BQ,ls.Nodup/\(∀l∈ls,F l=none/\(∃ob,H l=some ob/\Wr l ob)/\l∉cE sd)/\∀F' H',Same F F'->(∀l∈ls,∀ob,H l=some ob->H' l=some ob)->G v ls F' H'
noncomputable def R.keeps:R->Prop
 |.own _=>False
 |.pr _ _=>False
 |.ox _=>False
 |_=>True
section
variable {K:aA}{H₀ F F' H H':Hp}{σ:St}{sd:List Slot}{r:R}{v:V}
theorem ResOk.keep(hr:r.keeps)(h:ResOk K F H sd r v)(S':StF K H₀ F' H' σ sd)(s:Same F F'):ResOk K F' H' sd r v:=by
 cases r with
 |val d=>exact Rep.mono s h
 |own ds=>exact hr.elim
 |pr d ls=>exact hr.elim
 |ox G=>exact hr.elim
 |bor ds=>
  obtain⟨l,xs,e,hl,rl,q⟩:=h
  rcases q with q|q
  ·exact⟨l,xs,e,S'.sub _ _ (s _ _ q),rl.mono s,.inl (s _ _ q)⟩
  ·obtain⟨i,hi⟩:=iC q;obtain⟨o,_,e2,_,ys,h1,h2⟩:=S'.slots.get hi;exact⟨l,ys,e,h1,h2,.inr q⟩
end
structure PEd(X:Cx)(sd:List Slot)(e:Expr)(r:R):Prop where
 run:∀ (σ:St) (F H:Hp),StF X.K X.B₀ F H σ sd->
 wE X e σ H λv H'=>∃F',StF X.K X.B₀ F' H' σ sd/\Same F F'/\ResOk X.K F' H' sd r v
instance {X:Cx}{sd:List Slot}{e:Expr}{r:R}:CoeFun (PEd X sd e r) (fun _=>∀ (σ:St) (F H:Hp),StF X.K X.B₀ F H σ sd→
 wE X e σ H λv H'=>∃F',StF X.K X.B₀ F' H' σ sd/\Same F F'/\ResOk X.K F' H' sd r v):=⟨PEd.run⟩
structure PTd(X:Cx)(sd:List Slot)(e:Expr)(b:Bool):Prop where
 run:∀ (σ:St) (F H:Hp),StF X.K X.B₀ F H σ sd->
 wT X e σ H λc H'=>c=b/\∃F',StF X.K X.B₀ F' H' σ sd/\Same F F'
instance {X:Cx}{sd:List Slot}{e:Expr}{b:Bool}:CoeFun (PTd X sd e b) (fun _=>∀ (σ:St) (F H:Hp),StF X.K X.B₀ F H σ sd→
 wT X e σ H λc H'=>c=b/\∃F',StF X.K X.B₀ F' H' σ sd/\Same F F'):=⟨PTd.run⟩
structure PWd(X:Cx)(sd:List Slot)(e:Expr)(b:Bool):Prop where
 run:∀ (σ:St) (F H:Hp),StF X.K X.B₀ F H σ sd->
 wW X e σ H λc H'=>c=b/\∃F',StF X.K X.B₀ F' H' σ sd/\Same F F'
instance {X:Cx}{sd:List Slot}{e:Expr}{b:Bool}:CoeFun (PWd X sd e b) (fun _=>∀ (σ:St) (F H:Hp),StF X.K X.B₀ F H σ sd→
 wW X e σ H λc H'=>c=b/\∃F',StF X.K X.B₀ F' H' σ sd/\Same F F'):=⟨PWd.run⟩
inductive RsOk(K:aA)(F H:Hp)(sd:List Slot):List R->List V->Prop
 |nil:RsOk K F H sd [] []
 |cons {r v rs vs}:ResOk K F H sd r v->RsOk K F H sd rs vs->RsOk K F H sd (r::rs) (v::vs)
structure PAd(X:Cx)(sd:List Slot)(es:List Expr)(rs:List R):Prop where
 run:∀ (σ:St) (F H:Hp),StF X.K X.B₀ F H σ sd->
 wA X es σ H λvs H'=>∃F',StF X.K X.B₀ F' H' σ sd/\Same F F'/\RsOk X.K F' H' sd rs vs
instance {X:Cx}{sd:List Slot}{es:List Expr}{rs:List R}:CoeFun (PAd X sd es rs) (fun _=>∀ (σ:St) (F H:Hp),StF X.K X.B₀ F H σ sd→
 wA X es σ H λvs H'=>∃F',StF X.K X.B₀ F' H' σ sd/\Same F F'/\RsOk X.K F' H' sd rs vs):=⟨PAd.run⟩
structure jR where
 nx:List Slot->Prop
 rt:R->Prop
 bk:List Slot->Prop:=λ_=>False
 ct:List Slot->Prop:=λ_=>False
def aCw(K:aA)(H₀ H:Hp)(r:R)(v:V):Prop:=∃F,Same H₀ F/\Same F H/\Smp H/\ResOk K F H [] r v
noncomputable def lft(X:Cx)(F₀:Hp)(E:jR):uC where
 nx:=λσ H=>∃sd F,StF X.K X.B₀ F H σ sd/\Same F₀ F/\E.nx sd
 rt:=λv H=>∃r,aCw X.K X.B₀ H r v/\E.rt r
 bk:=λσ H=>∃sd F,StF X.K X.B₀ F H σ sd/\Same F₀ F/\E.bk sd
 ct:=λσ H=>∃sd F,StF X.K X.B₀ F H σ sd/\Same F₀ F/\E.ct sd
structure PSd(X:Cx)(sd:List Slot)(sts:List BU)(E:jR):Prop where
 run:∀ (σ:St) (F H:Hp),StF X.K X.B₀ F H σ sd->wSs X sts (lft X F E) σ H
instance {X:Cx}{sd:List Slot}{sts:List BU}{E:jR}:CoeFun (PSd X sd sts E) (λ_=>∀ (σ:St) (F H:Hp),StF X.K X.B₀ F H σ sd->wSs X sts (lft X F E) σ H):=⟨PSd.run⟩
structure PSd1(X:Cx)(sd:List Slot)(st:BU)(E:jR):Prop where
 run:∀ (σ:St) (F H:Hp),StF X.K X.B₀ F H σ sd->wS X st (lft X F E) σ H
instance {X:Cx}{sd:List Slot}{st:BU}{E:jR}:CoeFun (PSd1 X sd st E) (λ_=>∀ (σ:St) (F H:Hp),StF X.K X.B₀ F H σ sd->wS X st (lft X F E) σ H):=⟨PSd1.run⟩
section
variable {X:Cx}{sd:List Slot}{e a b c:Expr}{es:List Expr}{pos:Pos}{r ra rb:R}{d:D}{ds:List D}
theorem PEd.val(h:PEd X sd e (.own ds)):PEd X sd e (.val (.lst ds)):=.mk λσ F H S=>(h σ F H S).imp λv H' ⟨F',S',s,l,xs,e,n,q,rl,no⟩=>by obtain⟨S2,s2⟩:=S'.freeze q n no;refine⟨_,S2,s.trans s2, ?_⟩;show Rep _ _ _ _;simp only[Rep];exact⟨l,xs,e,cD,rl.mono s2⟩
theorem PEd.bor(h:PEd X sd e (.val (.lst ds))):PEd X sd e (.bor ds):=.mk λσ F H S=>(h σ F H S).imp λv H' ⟨F',S',s,q⟩=>by have q:Rep _ _ _ _:=q;simp only[Rep] at q;obtain⟨l,xs,e,q,rl⟩:=q;exact⟨F',S',s,l,xs,e,S'.sub _ _ q,rl,.inl q⟩
theorem aC(i:Nat){x:Str}(hs:sd[i]? =some (.val d))(h:PE X (.Name x pos) (lH i)):PEd X sd (.Name x pos) (.val d):= .mk fun σ F H S=>h.to (by
 obtain⟨o,h1,v,h2,q⟩:=S.slots.get hs
 exact⟨v,by rw[h1,h2],F,S,Same.refl _,q⟩)
theorem aIQ(i:Nat){x:Str}{l:BQ}(hs:sd[i]? =some (.own l ds))(h:PE X (.Name x pos) (lH i)):PEd X sd (.Name x pos) (.bor ds):= .mk fun σ F H S=>h.to (by
 obtain⟨o,h1,h2,n,xs,q,rl⟩:=S.slots.get hs
 exact⟨.ref l,by rw[h1,h2],F,S,Same.refl _,l,xs,rfl,q,rl,.inr (bD hs)⟩)
theorem bA{i j}:PEd X sd (.Constant (.int i) j pos) (.val (.int i)):=.mk λσ F H S=>pe_int.to ⟨F,S,Same.refl _,by simp only[ResOk,Rep]⟩
theorem aIz{i j}:PEd X sd (.Constant (.bool i) j pos) (.val (.bl i)):=.mk λσ F H S=>pe_bl.to ⟨F,S,Same.refl _,by simp only[ResOk,Rep]⟩
theorem mP{j}:PEd X sd (.Constant .none j pos) (.val .non):=.mk λσ F H S=>pe_non.to ⟨F,S,Same.refl _,by simp only[ResOk,Rep]⟩
theorem dL{i j}:PEd X sd (.Constant (.str i) j pos) (.val (.str i)):=.mk λσ F H S=>pe_str.to ⟨F,S,Same.refl _,by simp only[ResOk,Rep]⟩
theorem aFU{x:Str}{i:Int}{u:BO}(hg:Gl X x)(hm:X.mg x=some u)(ru:RelV (.int i) u)(hd:(x==("__debug__":Str))=false:=by decide):PEd X sd (.Name x pos) (.val (.int i)):=.mk λσ F H S=>(aDF hg hm ru hd).to ⟨F,S,Same.refl _,by simp only[ResOk,Rep]⟩
theorem aU:PAd X sd [] []:=.mk λσ F H S=>pa_nil.to ⟨F,S,Same.refl _,.nil⟩
theorem aE{rs:List R}(h1:PEd X sd e r)(h2:PAd X sd es rs)(hk:r.keeps:=by trivial)(hs:AD (e::es) X.env=(false,eval e X.env)::AD es X.env:=by rfl):PAd X sd (e::es) (r::rs):=.mk λσ F H S=>(fP gR xZ hs).to ((h1 σ F H S).imp λv H1 ⟨F1,S1,s1,q1⟩=>(h2 σ F1 H1 S1).imp λvs H2 ⟨F2,S2,s2,q2⟩=>⟨F2,S2,s1.trans s2,.cons (q1.keep hk S2 s2) q2⟩)
theorem RsOk.vals{K:aA}{F H:Hp}:∀ {ds:List D}{vs:List V},RsOk K F H sd (ds.map R.val) vs->RepL K F ds vs
 |[],_,.nil=>.nil
 |_::_,_,.cons q t=>.cons q (RsOk.vals t)
theorem fW{x1}(h:PAd X sd es (ds.map R.val))(hl:ds.length<=1000):PEd X sd (.Tuple es x1 pos) (.val (.tup ds)):=.mk λσ F H S=>
 (zR xZ).to ((h σ F H S).imp fun vs H1 ⟨F1,S1,s1,q1⟩=>by
  have rl:=q1.vals;refine⟨by rw[rl.len];exact cW (fX hl),λp hp=> ?_⟩;obtain⟨S2,s2⟩:=S1.lay (o:=.tup vs) hp trivial;refine⟨_,S2,s1.trans s2, ?_⟩;simp only[ResOk,Rep]
  exact⟨p,vs,rfl,cD,rl.mono s2⟩)
theorem iA(h:PAd X sd es (ds.map R.val))(hl:ds.length<=1000):PEd X sd (.List es pos) (.own ds):=.mk λσ F H S=>
 (aMY xZ).to ((h σ F H S).imp fun vs H1 ⟨F1,S1,s1,q1⟩=>by
  have rl:=q1.vals;refine⟨by rw[rl.len];exact cW (fX hl),λp hp=> ?_⟩;obtain⟨S2,fp,no⟩:=S1.layO (xs:=vs) hp
  exact⟨_,S2,s1,p,vs,rfl,fp,cD,rl,no⟩)
theorem aCE{op:Operator}{r2:R2}(ho:OpR X (Al op) r2)(ha:PEd X sd a ra)(hb:PEd X sd b rb)(hk:ra.keeps)
  (h:∀ (σ:St) (F H:Hp) (v u:V) (Q:VK),StF X.K X.B₀ F H σ sd->ResOk X.K F H sd ra v->ResOk X.K F H sd rb u->(∀w F' H',StF X.K X.B₀ F' H' σ sd->Same F F'->ResOk X.K F' H' sd r w->Q w H')->r2 v u H Q):
  PEd X sd (.BinOp a op b pos) r:=.mk λσ F H S=>
 (aOI ho gR gR).to ((ha σ F H S).imp λv H1 ⟨F1,S1,s1,q1⟩=>(hb σ F1 H1 S1).imp λu H2 ⟨F2,S2,s2,q2⟩=>h σ F2 H2 v u _ S2 (q1.keep hk S2 s2) q2 λw F' H' S' s' q'=>⟨F',S',(s1.trans s2).trans s',q'⟩)
theorem zY{op:CmpOp}{r2:R2}(ho:OpR X (AZ op) r2)(ha:PEd X sd a ra)(hb:PEd X sd b rb)(hk:ra.keeps)(hm:Ag op b=false){k:Bool}
  (h:∀ (σ:St) (F H:Hp) (v u:V) (Q:VK),StF X.K X.B₀ F H σ sd->ResOk X.K F H sd ra v->ResOk X.K F H sd rb u->(∀F' H',StF X.K X.B₀ F' H' σ sd->Same F F'->Q (.bl k) H')->r2 v u H Q):
  PEd X sd (.Compare a [op] [b] pos) (.val (.bl k)):=.mk λσ F H S=>
 (aJk ho gR gR hm).to ((ha σ F H S).imp λv H1 ⟨F1,S1,s1,q1⟩=>(hb σ F1 H1 S1).imp λu H2 ⟨F2,S2,s2,q2⟩=>h σ F2 H2 v u _ S2 (q1.keep hk S2 s2) q2 λF' H' S' s'=>⟨F',S',(s1.trans s2).trans s',by simp only[ResOk,Rep]⟩)
theorem qY{k:Bool}(h:PEd X sd e (.val (.bl k)))(he:∀whole,isTrue e X.env whole=(do let v <-whole;standAt e.pos;holding [v] (truthy v)):=by intro _;rfl):PTd X sd e k:=.mk λσ F H S=>
 (aNc gR he).to ((h σ F H S).imp fun v H1 ⟨F1,S1,s1,q1⟩=>by
  simp only[ResOk,Rep] at q1
  exact⟨k,q1,rfl,F1,S1,s1⟩)
theorem nK{op:CmpOp}{r2:R2}(ho:OpR X (AZ op) r2)(ha:PEd X sd a ra)(hb:PEd X sd b rb)(hk:ra.keeps)(hm:Ag op b=false){k:Bool}
  (h:∀ (σ:St) (F H:Hp) (v u:V) (Q:VK),StF X.K X.B₀ F H σ sd->ResOk X.K F H sd ra v->ResOk X.K F H sd rb u->(∀F' H',StF X.K X.B₀ F' H' σ sd->Same F F'->Q (.bl k) H')->r2 v u H Q):
  PTd X sd (.Compare a [op] [b] pos) k:=.mk λσ F H S=>
 (aAr ho gR gR hm).to ((ha σ F H S).imp λv H1 ⟨F1,S1,s1,q1⟩=>(hb σ F1 H1 S1).imp λu H2 ⟨F2,S2,s2,q2⟩=>h σ F2 H2 v u _ S2 (q1.keep hk S2 s2) q2 λF' H' S' s'=>⟨k,rfl,rfl,F',S',(s1.trans s2).trans s'⟩)
end
section
variable {X:Cx}{sd:List Slot}{e a b c:Expr}{es:List Expr}{pos:Pos}{r ra rb:R}{d:D}{ds:List D}{st:BU}{rest:List BU}{E:jR}
theorem wS.imp{D D':uC}{σ:St}{H:Hp}(h:wS X st D σ H)(k1:∀σ H,D.nx σ H->D'.nx σ H)(k2:∀v H,D.rt v H->D'.rt v H)(k3:∀σ H,D.bk σ H->D'.bk σ H)(k4:∀σ H,D.ct σ H->D'.ct σ H):wS X st D' σ H:=
 λpins s I=>thn (h pins s I) λf s' q=>q.imp k1 k2 k3 k4
theorem aDW{k:Bool}(h:PTd X sd e k):PTd X sd (.UnaryOp .Not e pos) (!k):=.mk λσ F H S=>(aMm aIu).to ((h σ F H S).imp λc H' ⟨e,q⟩=>⟨by rw[e],q⟩)
theorem aAZ{k:Bool}(h:PTd X sd a k):PWd X sd (.BoolOp .And [a] pos) k:=.mk λσ F H S=>(aJe aIu).to (h σ F H S)
theorem aAm{k:Bool}(h:PTd X sd a k):PWd X sd (.BoolOp .Or [a] pos) k:=.mk λσ F H S=>(aMs aIu).to (h σ F H S)
theorem uQ{k j:Bool}(h:PTd X sd a k)(h2:k=true->PWd X sd (.BoolOp .And (b::es) pos) j):PWd X sd (.BoolOp .And (a::b::es) pos) (k&&j):=.mk λσ F H S=>
 (aMf aIu aNO).to ((h σ F H S).imp fun c H' ⟨e,F',S',s'⟩=>by
  subst e;cases c with
  |false=>exact aKz ⟨rfl,F',S',s'⟩
  |true=>exact aKy ((h2 rfl σ F' H' S').imp λc2 H2 ⟨e2,F2,S2,s2⟩=>⟨by rw[e2];rfl,F2,S2,s'.trans s2⟩))
theorem qM{k j:Bool}(h:PTd X sd a k)(h2:k=false->PWd X sd (.BoolOp .Or (b::es) pos) j):PWd X sd (.BoolOp .Or (a::b::es) pos) (k||j):=.mk λσ F H S=>
 (aOC aIu aNO).to ((h σ F H S).imp fun c H' ⟨e,F',S',s'⟩=>by
  subst e;cases c with
  |true=>exact aKy ⟨rfl,F',S',s'⟩
  |false=>exact aKz ((h2 rfl σ F' H' S').imp λc2 H2 ⟨e2,F2,S2,s2⟩=>⟨by rw[e2];rfl,F2,S2,s'.trans s2⟩))
theorem PWd.pt{k:Bool}(h:PWd X sd e k):PTd X sd e k:=.mk λσ F H S=>(aNO).pt.to (h σ F H S)
theorem aMQ{op}{r:R}(h:PEd X sd a r):PEd X sd (.BoolOp op [a] pos) r:=.mk λσ F H S=>(aNd gR).to (h σ F H S)
theorem aMH{k j:Bool}(h:PEd X sd a (.val (.bl k)))(h2:k=true->PEd X sd (.BoolOp .And (b::es) pos) (.val (.bl j))):PEd X sd (.BoolOp .And (a::b::es) pos) (.val (.bl (k&&j))):=.mk λσ F H S=>
 (aMx gR gR).to ((h σ F H S).imp fun v H' ⟨F',S',s',q⟩=>by
  simp only[ResOk,Rep] at q;subst q;refine⟨k,rfl, ?_⟩;cases k with
  |false=>exact aKz ⟨F',S',s',by simp only[ResOk,Rep,qC]⟩
  |true=>exact aKy ((h2 rfl σ F' H' S').imp λv2 H2 ⟨F2,S2,s2,q2⟩=>⟨F2,S2,s'.trans s2,by simpa only[Bool.true_and] using q2⟩))
theorem gO{op:Operator}{g:Int->Int->Int}{i j:Int}(ho:OpR X (Al op) (rI0 λi j=>.int (g i j)))(ha:PEd X sd a (.val (.int i)))(hb:PEd X sd b (.val (.int j))):PEd X sd (.BinOp a op b pos) (.val (.int (g i j))):=
 aCE ho ha hb trivial λσ F H v u Q S q1 q2 k=>by simp only[ResOk,Rep] at q1 q2;exact⟨i,j,q1,q2,k _ F H S (Same.refl _) (by simp only[ResOk,Rep])⟩
theorem cJ{op:Operator}{g:Int->Int->Int}{C:Int->Int->Prop}{i j:Int}(ho:OpR X (Al op) (rI C λi j=>.int (g i j)))(ha:PEd X sd a (.val (.int i)))(hb:PEd X sd b (.val (.int j)))(hc:C i j):PEd X sd (.BinOp a op b pos) (.val (.int (g i j))):=
 aCE ho ha hb trivial λσ F H v u Q S q1 q2 k=>by simp only[ResOk,Rep] at q1 q2;exact⟨i,j,q1,q2,hc,k _ F H S (Same.refl _) (by simp only[ResOk,Rep])⟩
theorem iW:OpR X (Al .Mult) (rI IntMulOk λi j=>.int (i*j)):=opI λ_ _ _ _ _ _ _ hc q=>mul_int q hc
theorem lP:OpR X (Al .FloorDiv) (rI (λ_ j=>0<j/\j.natAbs.log2<9000) λi j=>.int (i / j)):=opI λi j _ _ _ _ _ hc q=>by have h1:(0:Int)<j:=hc.1;exact floordiv_int (by omega) (by rw[aAi i (by omega)];exact q) (.inl (PyProof.noPylong_of_log2 hc.2))
theorem mU{op:CmpOp}{g:Int->Int->Bool}{i j:Int}(ho:OpR X (AZ op) (rI0 λi j=>.bl (g i j)))(ha:PEd X sd a (.val (.int i)))(hb:PEd X sd b (.val (.int j)))(hm:Ag op b=false):PTd X sd (.Compare a [op] [b] pos) (g i j):=
 nK ho ha hb trivial hm λσ F H v u Q S q1 q2 k=>by simp only[ResOk,Rep] at q1 q2;exact⟨i,j,q1,q2,k F H S (Same.refl _)⟩
noncomputable def flt:D->Option V
 |.non=>some .non
 |.bl b=>some (.bl b)
 |.int i=>some (.int i)
 |.str x=>some (.str x)
 |_=>none
theorem aAt{K:aA}{H:Hp}{d:D}{x v:V}(h:flt d=some x)(q:Rep K H d v):v=x:=by
 cases d with
 |non=>simp only[Rep] at q;simp only[flt] at h;rw[q];exact cC.inj h
 |bl=>simp only[Rep] at q;simp only[flt] at h;rw[q];exact cC.inj h
 |int=>simp only[Rep] at q;simp only[flt] at h;rw[q];exact cC.inj h
 |str=>simp only[Rep] at q;simp only[flt] at h;rw[q];exact cC.inj h
 |tup=>simp only[flt] at h;cases h
 |lst=>simp only[flt] at h;cases h
 |dic=>simp only[flt] at h;cases h
 |dki=>simp only[flt] at h;cases h
 |any=>simp only[flt] at h;cases h
 |scr=>simp only[flt] at h;cases h
theorem cX{d1 d2:D}{x y:V}{k:Bool}(ha:PEd X sd a (.val d1))(hb:PEd X sd b (.val d2))(h1:flt d1=some x)(h2:flt d2=some y)(hs:aOT x y=true)(hk:decide (x=y)=k):PTd X sd (.Compare a [.Eq] [b] pos) k:=
 nK aLl ha hb trivial (jC _) λσ F H v u Q S q1 q2 kk=>by have e1:=aAt h1 q1;have e2:=aAt h2 q2;subst e1 e2;exact⟨hs,by rw[hk];exact kk F H S (Same.refl _)⟩
theorem rD{i j:Int}(ha:PEd X sd a (.val (.int i)))(hb:PEd X sd b (.val (.int j))):PTd X sd (.Compare a [.Eq] [b] pos) (decide (i=j)):=cX ha hb rfl rfl rfl (by rw[aAw,aCt])
theorem dD{n:Nat}(ha:PEd X sd a (.val (.tup ds)))(hb:PEd X sd b (.val (.int (n:Int))))(hd:ds[n]? =some d)(hs:lZ b):PEd X sd (.Subscript a b pos) (.val d):=.mk λσ F H S=>
 (aCx aCB gR gR hs).to ((ha σ F H S).imp fun v H1 ⟨F1,S1,s1,q1⟩=>(hb σ F1 H1 S1).imp fun u H2 ⟨F2,S2,s2,q2⟩=>by
  have q1:=Rep.mono s2 q1;simp only[ResOk,Rep] at q1 q2;obtain⟨p,xs,e1,hp,rl⟩:=q1;obtain⟨w,hw,rw'⟩:=rl.get hd
  exact⟨p,xs,(n:Int),w,e1,q2,.of (S2.sub _ _ hp),zN hw,F2,S2,s1.trans s2,rw'⟩)
theorem nY{n:Nat}(ha:PEd X sd a (.bor ds))(hb:PEd X sd b (.val (.int (n:Int))))(hd:ds[n]? =some d)(hs:lZ b):PEd X sd (.Subscript a b pos) (.val d):=.mk λσ F H S=>
 (aCx aDk gR gR hs).to ((ha σ F H S).imp fun v H1 ⟨F1,S1,s1,q1⟩=>(hb σ F1 H1 S1).imp fun u H2 ⟨F2,S2,s2,q2⟩=>by
  obtain⟨p,xs,e1,hp,rl,_⟩:=ResOk.keep (r:=.bor ds) trivial q1 S2 s2;simp only[ResOk,Rep] at q2;obtain⟨w,hw,rw'⟩:=rl.get hd
  exact⟨p,xs,(n:Int),w,e1,q2,.of hp,zN hw,F2,S2,s1.trans s2,rw'⟩)
theorem aMi{ns:List Int}{n:Nat}{z:Int}(ha:PEd X sd a (.val (.scr ns)))(hb:PEd X sd b (.val (.int (n:Int))))(hd:ns[n]? =some z)(hs:lZ b):PEd X sd (.Subscript a b pos) (.val (.int z)):=.mk λσ F H S=>
 (aCx aDk gR gR hs).to ((ha σ F H S).imp fun v H1 ⟨F1,S1,s1,q1⟩=>(hb σ F1 H1 S1).imp fun u H2 ⟨F2,S2,s2,q2⟩=>by
  have q1:=Rep.mono (s2.trans S2.sub) q1;simp only[ResOk,Rep] at q1 q2;obtain⟨p,e1,hp⟩:=q1
  exact⟨p,_,(n:Int),.int z,e1,q2,hp,zN (by rw[bF,hd];rfl),F2,S2,s1.trans s2,by simp only[ResOk,Rep]⟩)
theorem oV{x:Str}{p:Pos}{id:String}{rr:List V->Hp->VK->Prop}{rs:List R}(hc:mH X (.builtin id) rr)(hg:Gl X x)(hm:X.mg x=none)(hv:Aq x=some (.builtin id))(ha:PAd X sd (e::es) rs)
  (h:∀ (σ:St) (F H:Hp) (vs:List V) (Q:VK),StF X.K X.B₀ F H σ sd->RsOk X.K F H sd rs vs->(∀w F' H',StF X.K X.B₀ F' H' σ sd->Same F F'->ResOk X.K F' H' sd r w->Q w H')->rr vs H Q)
  (hn:x≠"__name__":=by decide) (hdb:(x==("__debug__":Str))=false:=by decide) (he:AD (e::es) X.env=(false,eval e X.env)::AD es X.env:=by rfl) (hpl:(Aw pos (AD es X.env)).any (·.1)=false:=by rfl):
  PEd X sd (.Call (.Name x p) (e::es) [] pos) r:=.mk λσ F H S=>
 (rB hc hg hm hv xZ hn hdb he hpl).to ((ha σ F H S).imp λvs H1 ⟨F1,S1,s1,q1⟩=>h σ F1 H1 vs _ S1 q1 λw F' H' S' s' q'=>⟨F',S',s1.trans s',q'⟩)
theorem tI{x:Str}{p:Pos}{T:String}{rr:List V->Hp->VK->Prop}{rs:List R}(hc:mH X (.type T) rr)(hg:Gl X x)(hm:X.mg x=none)(hv:Aq x=some (.type T))(ha:PAd X sd (e::es) rs)
  (h:∀ (σ:St) (F H:Hp) (vs:List V) (Q:VK),StF X.K X.B₀ F H σ sd->RsOk X.K F H sd rs vs->(∀w F' H',StF X.K X.B₀ F' H' σ sd->Same F F'->ResOk X.K F' H' sd r w->Q w H')->rr vs H Q)
  (hn:x≠"__name__":=by decide) (hdb:(x==("__debug__":Str))=false:=by decide) (he:AD (e::es) X.env=(false,eval e X.env)::AD es X.env:=by rfl) (hpl:(Aw pos (AD es X.env)).any (·.1)=false:=by rfl):
  PEd X sd (.Call (.Name x p) (e::es) [] pos) r:=.mk λσ F H S=>
 (aEq hc hg hm hv xZ hn hdb he hpl).to ((ha σ F H S).imp λvs H1 ⟨F1,S1,s1,q1⟩=>h σ F1 H1 vs _ S1 q1 λw F' H' S' s' q'=>⟨F',S',s1.trans s',q'⟩)
theorem aDc{p:Pos}(hg:Gl X "len")(hm:X.mg "len"=none)(ha:PEd X sd e (.val (.tup ds)))(hst:AD [e] X.env=(false,eval e X.env)::AD [] X.env:=by rfl):PEd X sd (.Call (.Name "len" p) [e] [] pos) (.val (.int ds.length)):=
 oV (he:=hst) nV hg hm PySem.boot_len (aE ha aU trivial hst) λσ F H vs Q S q k=>by
  cases q with
  |cons q1 q2=>cases q2;simp only[ResOk,Rep] at q1;obtain⟨p,xs,rfl,hp,rl⟩:=q1;refine⟨p,xs,rfl,.inr (.of (S.sub _ _ hp)),k _ F H S (Same.refl _) ?_⟩;simp only[ResOk,Rep,rl.len]
theorem uT{p:Pos}(hg:Gl X "len")(hm:X.mg "len"=none)(ha:PEd X sd e (.bor ds))(hst:AD [e] X.env=(false,eval e X.env)::AD [] X.env:=by rfl):PEd X sd (.Call (.Name "len" p) [e] [] pos) (.val (.int ds.length)):=
 oV (he:=hst) nV hg hm PySem.boot_len (aE ha aU trivial hst) λσ F H vs Q S q k=>by
  cases q with
  |cons q1 q2=>cases q2;obtain⟨p,xs,rfl,hp,rl,_⟩:=q1;refine⟨p,xs,rfl,.inl (.of hp),k _ F H S (Same.refl _) ?_⟩;simp only[ResOk,Rep,rl.len]
theorem aJI{p:Pos}{ns:List Int}(hg:Gl X "len")(hm:X.mg "len"=none)(ha:PEd X sd e (.val (.scr ns)))(hst:AD [e] X.env=(false,eval e X.env)::AD [] X.env:=by rfl):PEd X sd (.Call (.Name "len" p) [e] [] pos) (.val (.int ns.length)):=
 oV (he:=hst) nV hg hm PySem.boot_len (aE ha aU trivial hst) λσ F H vs Q S q k=>by
  cases q with
  |cons q1 q2=>cases q2;have q1:=Rep.mono S.sub q1;simp only[Rep] at q1;obtain⟨p,rfl,hp⟩:=q1;refine⟨p,_,rfl,.inl hp,k _ F H S (Same.refl _) ?_⟩;simp only[ResOk,Rep,aB]
noncomputable def tyD:D->BO
 |.non=>.type "NoneType"
 |.bl _=>.type "bool"
 |.int _=>.type "int"
 |.str _=>.type "str"
 |.tup _=>.type "tuple"
 |.lst _=>.type "list"
 |.dic=>.type "dict"
 |.dki _ _=>.type "dict"
 |.any _=>.type "dict"
 |.scr _=>.type "list"
theorem aOh{K:aA}{H:Hp}{d:D}{v:V}(h:∀ns,d≠ .scr ns)(hA:∀G,d≠ .any G)(q:Rep K H d v):rN K H v (tyD d):=by
 cases d with
 |non=>simp only[Rep] at q;subst q;exact .non
 |bl b=>simp only[Rep] at q;subst q;exact .bl b
 |int b=>simp only[Rep] at q;subst q;exact .int b
 |str b=>simp only[Rep] at q;subst q;exact .str b
 |tup ds=>simp only[Rep] at q;obtain⟨a,xs,rfl,h,_⟩:=q;exact .tup h
 |lst ds=>simp only[Rep] at q;obtain⟨a,xs,rfl,h,_⟩:=q;exact .lst h
 |dic=>simp only[Rep] at q;obtain⟨a,rfl,h⟩:=q;exact .dK (.of h)
 |dki ks ds=>simp only[Rep] at q;obtain⟨a,xs,rfl,h,_⟩:=q;exact .dK (.inr h)
 |scr ns=>exact absurd rfl (h ns)
 |any G=>exact absurd rfl (hA G)
theorem aDY:mH X (.builtin "isinstance") (λxs H Q=>∃x t n k,xs=[x,.ty n]/\rN X.K H x t/\fQ X.K t (.type n)=some k/\Q (.bl k) H):=by intro pins s σ H xs us Q I r h;obtain⟨x,t,n,k,rfl,ty,e,q⟩:=h;obtain⟨u,u',rfl,ru,ru'⟩:=aOn r;cases(show u'=Value.type n from ru');exact aES I ru ty e λtk=>⟨.bl k,H,I.tok tk,rfl,q⟩
theorem aJW{x:Str}{n:String}{pos:Pos}(hg:Gl X x)(hm:X.mg x=none)(hv:Aq x=some (.type n))(hn:x≠"__name__":=by decide)(hd:(x==("__debug__":Str))=false:=by decide):PE X (.Name x pos) (tC (.ty n)):=aJL hg hm hv rfl hn hd
theorem aDg{x:Str}{n:String}{p p2:Pos}{k:Bool}(hg:Gl X "isinstance")(hm:X.mg "isinstance"=none)(hgx:Gl X x)(hmx:X.mg x=none)(hv:Aq x=some (.type n))(ha:PEd X sd e (.val d))(hd:∀ns,d≠ .scr ns)
  (hk:fQ X.K (tyD d) (.type n)=some k) (hA:∀G,d≠ .any G:=by(intro _ h;cases h)) (hn:x≠"__name__":=by decide) (hdb:(x==("__debug__":Str))=false:=by decide)
  (he:AD (e::[.Name x p2]) X.env=(false,eval e X.env)::AD [.Name x p2] X.env:=by rfl) (hpl:(Aw pos (AD [.Name x p2] X.env)).any (·.1)=false:=by rfl) (hs2:AD [.Name x p2] X.env=(false,eval (.Name x p2) X.env)::AD [] X.env:=by rfl):
  PEd X sd (.Call (.Name "isinstance" p) [e, .Name x p2] [] pos) (.val (.bl k)):=.mk λσ F H S=>
 (rB aDY hg hm boot_isinstance (fP gR (fP (aJW hgx hmx hv hn hdb) pa_nil hs2) he) (by decide) (by decide) he hpl).to ((ha σ F H S).imp λv H1 ⟨F1,S1,s1,q1⟩=>by exact⟨v,tyD d,n,k,rfl,aOh hd hA (Rep.mono S1.sub q1),hk,F1,S1,s1,by simp only[ResOk,Rep]⟩)
theorem cQ(h:E.nx sd):PSd X sd [] E:=.mk λσ F H S=>pss_nil.to ⟨sd,F,S,Same.refl _,h⟩
theorem aG(h:PSd1 X sd st {E with nx:=λsd'=>PSd X sd' rest E}):PSd X sd (st::rest) E:=.mk λσ F H S=>
 (aAY aPb rA).to (wS.imp (h σ F H S) (fun σ' H' ⟨sd',F',S',s',q⟩=>(q σ' F' H' S').imp (fun σ2 H2 ⟨sd2,F2,S2,s2,q2⟩=>⟨sd2,F2,S2,s'.trans s2,q2⟩) (fun v H2 q2=>q2)
  (λσ2 H2 ⟨sd2,F2,S2,s2,q2⟩=>⟨sd2,F2,S2,s'.trans s2,q2⟩) λσ2 H2 ⟨sd2,F2,S2,s2,q2⟩=>⟨sd2,F2,S2,s'.trans s2,q2⟩) (λv H q=>q) (λσ H q=>q) λσ H q=>q)
theorem bE(h:PSd1 X sd st E):PSd X sd [st] E:=.mk λσ F H S=>(aIM aPb).to (h σ F H S)
theorem bT(h:PEd X sd e r)(hr:match r with | .bor _=>False|_=>True)(hE:E.rt r):PSd1 X sd (.Return (some e) pos) E:=.mk λσ F H S=>
 (aAT gR).to ((h σ F H S).imp fun v H' ⟨F',S',s',q⟩=>⟨r,⟨F',S'.base,S'.sub,S'.smp,by
  cases r with
  |val d=>exact q
  |own ds=>obtain⟨l,xs,a,b,c,d,_⟩:=q;exact⟨l,xs,a,b,c,d,by simp[cE]⟩
  |pr d ls=>obtain⟨t,l,xs,y,a,b,c,d,e,f,_⟩:=q;exact⟨t,l,xs,y,a,b,c,d,e,f,by simp[cE]⟩
  |ox G=>obtain⟨ls,nd,h,g⟩:=q;exact⟨ls,nd,λl hl=>⟨(h l hl).1,(h l hl).2.1,by simp[cE]⟩,g⟩
  |bor ds=>exact hr.elim⟩,hE⟩)
theorem nG(i:Nat){x:Str}{p:Pos}{l:BQ}(hs:sd[i]? =some (.own l ds))(h:PE X (.Name x p) (lH i))(hE:E.rt (.own ds)):PSd1 X sd (.Return (some (.Name x p)) pos) E:=.mk λσ F H S=>
 (aAT h).to (by
  obtain⟨o,h1,h2,n,xs,q,rl⟩:=S.slots.get hs
  exact⟨.ref l,by rw[h1,h2],.own ds,⟨F,S.base,S.sub,S.smp,l,xs,rfl,n,q,rl,by simp[cE]⟩,hE⟩)
theorem gF{k:Bool}{a o:List BU}(h:PTd X sd c k)(h1:k=true->PSd X sd a E)(h2:k=false->PSd X sd o E):PSd1 X sd (.If c a o pos) E:=.mk λσ F H S=>
 (aOa aIu rA rA).to ((h σ F H S).imp fun k' H' ⟨e,F',S',s'⟩=>by
  have up:∀ {sts:List BU},PSd X sd sts E->wSs X sts (lft X F E) σ H':=λh=>(h σ F' H' S').imp (λσ2 H2 ⟨sd2,F2,S2,s2,q2⟩=>⟨sd2,F2,S2,s'.trans s2,q2⟩) (λv H2 q2=>q2)
   (λσ2 H2 ⟨sd2,F2,S2,s2,q2⟩=>⟨sd2,F2,S2,s'.trans s2,q2⟩) λσ2 H2 ⟨sd2,F2,S2,s2,q2⟩=>⟨sd2,F2,S2,s'.trans s2,q2⟩
  subst e;cases k' with
  |true=>exact aKy (up (h1 rfl))
  |false=>exact aKz (up (h2 rfl)))
theorem jS:∀ {sd:List Slot}{z:Slot} (i:Nat),(cE sd).Nodup->(∀l,l∈iH z->l∉cE sd\/(∃z',sd[i]? =some z'/\l∈iH z'))->(hz:(iH z).Nodup:=by simp[iH])->(cE (sd.set i z)).Nodup/\∀l,l∈cE (sd.set i z)->l∈cE sd\/l∈iH z
 |[],z,i,h,_,_=>⟨h,λl hl=>.inl hl⟩
 |z'::zs,z,0,h,hz,nz=>by
  show(iH z++cE zs).Nodup/\∀l,l∈iH z++cE zs->_;obtain⟨n1,n2,n3⟩:=bJ.mp (show(iH z'++cE zs).Nodup from h);refine⟨bJ.mpr ⟨nz,n2,λa ha b hb e=> ?_⟩,λl hl=> ?_⟩
  ·subst e
   rcases hz a ha with y|⟨z2,e2,y⟩
   ·exact y (aS _ hb)
   ·have:z'=z2:=by simpa using e2
    subst this;exact n3 a y a hb rfl
  ·rcases bC.mp hl with y|y
   ·exact .inr y
   ·exact .inl (aS _ y)
 |z'::zs,z,i+1,h,hz,nz=>by
  show(iH z'++cE (zs.set i z)).Nodup/\∀l,l∈iH z'++cE (zs.set i z)->_;obtain⟨n1,n2,n3⟩:=bJ.mp (show(iH z'++cE zs).Nodup from h)
  obtain ⟨i1,i2⟩:=jS (sd:=zs) (z:=z) i n2 (fun l hl=>by
   rcases hz l hl with y|⟨z2,e2,y⟩
   ·exact .inl λq=>y (aS _ q)
   ·exact .inr ⟨z2,by simpa using e2,y⟩) nz
  refine⟨bJ.mpr ⟨n1,i1,λa ha b hb e=> ?_⟩,λl hl=> ?_⟩
  ·subst e
   rcases i2 a hb with y|y
   ·exact n3 a ha a y rfl
   ·rcases hz a y with y|⟨z2,e2,y⟩
    ·exact y (bZ _ ha)
    ·have m:a∈cE zs:=dO.mpr ⟨z2,bD (by simpa using e2),y⟩;exact n3 a ha a m rfl
  ·rcases bC.mp hl with y|y
   ·exact .inl (bZ _ y)
   ·rcases i2 l y with y|y
    ·exact .inl (aS _ y)
    ·exact .inr y
theorem StF.set{K:aA}{H₀ F H:Hp}{σ:St}{v:V}(S:StF K H₀ F H σ sd)(i:Nat)(q:Rep K F d v):StF K H₀ F H (σ.set i (some v)) (sd.set i (.val d)):=
 ⟨S.base,S.sub,S.smp,S.slots.set (z:=.val d) ⟨v,rfl,q⟩ i,(jS i S.nd λl e=>by simp[iH] at e).1⟩
theorem StF.setO{K:aA}{H₀ F H:Hp}{σ:St}{l:BQ}{xs:List V}(S:StF K H₀ F H σ sd)(i:Nat)(n:F l=none)(h:H l=some (.lst xs))(q:RepL K F ds xs)(no:l∉cE sd):StF K H₀ F H (σ.set i (some (.ref l))) (sd.set i (.own l ds)):=
 ⟨S.base,S.sub,S.smp,S.slots.set (z:=.own l ds) ⟨rfl,n,xs,h,q⟩ i,(jS i S.nd λl' e=>by rw[aJ.mp e];exact .inl no).1⟩
theorem cB(i:Nat){x:Str}{p:Pos}(hN:X.N.Nodup)(hi:X.N[i]? =some x)(hx:Loc X.env.scope x)(h:PEd X sd e (.val d))(hE:E.nx (sd.set i (.val d)))(hs:Ak e (some (.Name x p)) pos.line X.env=pure false:=by rfl)
  (hf:X.fn x=true\/X.env.scope.names.lookup x=some .local:=by first|exact .inl rfl|exact .inr rfl|assumption):PSd1 X sd (.Assign [.Name x p] e pos) E:=.mk λσ F H S=>
 (qR hN hi hx gR hs hf).to ((h σ F H S).imp λv H' ⟨F',S',s',q⟩=>⟨_,F',S'.set i q,s',hE⟩)
theorem iG(i:Nat){x:Str}{p:Pos}(hN:X.N.Nodup)(hi:X.N[i]? =some x)(hx:Loc X.env.scope x)(h:PEd X sd e (.own ds))(hE:∀l,E.nx (sd.set i (.own l ds)))(hs:Ak e (some (.Name x p)) pos.line X.env=pure false:=by rfl)
  (hf:X.fn x=true\/X.env.scope.names.lookup x=some .local:=by first|exact .inl rfl|exact .inr rfl|assumption):PSd1 X sd (.Assign [.Name x p] e pos) E:=.mk λσ F H S=>
 (qR hN hi hx gR hs hf).to ((h σ F H S).imp λv H' ⟨F',S',s',l,xs,e,n,q,rl,no⟩=>⟨_,F',by subst e;exact S'.setO i n q rl no,s',hE l⟩)
noncomputable def Le:List Slot->List Slot->Prop
 |[],[]=>True
 |x::xs,y::ys=>(y=.un\/x=y)/\Le xs ys
 |_,_=>False
theorem Le.refl:∀ (sd:List Slot),Le sd sd
 |[]=>trivial
 |_::xs=>⟨.inr rfl,Le.refl xs⟩
theorem Le.own:∀ {sd sd':List Slot},Le sd sd'->(cE sd').Sublist (cE sd)
 |[],[],_=>List.Sublist.refl _
 |[],_::_,h=>h.elim
 |_::_,[],h=>h.elim
 |x::xs,y::ys,h=>by
  obtain⟨h1,h2⟩:=h;have ih:=Le.own h2
  rcases h1 with rfl|rfl
  ·exact ih.trans (List.sublist_append_right _ _)
  ·exact List.Sublist.append (List.Sublist.refl _) ih
theorem Le.slots{K:aA}{F H:Hp}:∀ {sd sd':List Slot}{σ:St},Le sd sd'->SlotsOk K F H sd σ->SlotsOk K F H sd' σ
 |[],[],_,_,h=>h
 |[],_::_,_,h,_=>h.elim
 |_::_,[],_,h,_=>h.elim
 |x::xs,y::ys,σ,h,q=>by
  obtain⟨h1,h2⟩:=h;obtain⟨o,r,rfl,a,b⟩:=q;refine⟨o,r,rfl, ?_,Le.slots h2 b⟩
  rcases h1 with rfl|rfl
  ·trivial
  ·exact a
theorem StF.le{K:aA}{H₀ F H:Hp}{σ:St}{sd':List Slot}(S:StF K H₀ F H σ sd)(h:Le sd sd'):StF K H₀ F H σ sd':=⟨S.base,S.sub,S.smp,h.slots S.slots,S.nd.sublist h.own⟩
theorem aCA{sd':List Slot}{sts:List BU}(h:Le sd sd')(q:PSd X sd' sts E):PSd X sd sts E:=.mk λσ F H S=>q σ F H (S.le h)
theorem aHW{F₀ F:Hp}{E:jR}{σ:St}{H:Hp}{sts:List BU}(s:Same F₀ F)(h:wSs X sts (lft X F E) σ H):wSs X sts (lft X F₀ E) σ H:=
 h.imp (λσ2 H2 ⟨sd2,F2,S2,s2,q2⟩=>⟨sd2,F2,S2,s.trans s2,q2⟩) (λv H2 q2=>q2) (λσ2 H2 ⟨sd2,F2,S2,s2,q2⟩=>⟨sd2,F2,S2,s.trans s2,q2⟩) λσ2 H2 ⟨sd2,F2,S2,s2,q2⟩=>⟨sd2,F2,S2,s.trans s2,q2⟩
theorem iF:∀ (sd:List Slot) (i:Nat),Le sd (sd.set i .un)
 |[],_=>trivial
 |_::xs,0=>⟨.inl rfl,Le.refl xs⟩
 |_::xs,i+1=>⟨.inr rfl,iF xs i⟩
theorem jD:∀ {sd:List Slot}{i:Nat}{l:BQ}{z:Slot},(cE sd).Nodup->sd[i]? =some z->l∈iH z->l∉cE (sd.set i .un)
 |[],_,_,_,_,e,_=>by simp at e
 |y::zs,0,l,z,h,e,hl=>by
  have:y=z:=by simpa using e
  subst this;obtain⟨n1,n2,n3⟩:=bJ.mp (show(iH y++cE zs).Nodup from h);exact λhm=>n3 l hl l hm rfl
 |y::zs,i+1,l,z,h,e,hl=>by
  have e':zs[i]? =some z:=by simpa using e
  obtain⟨n1,n2,n3⟩:=bJ.mp (show(iH y++cE zs).Nodup from h);have ml:l∈cE zs:=dO.mpr ⟨_,bD e',hl⟩;intro hm
  rcases bC.mp (show l∈iH y++cE (zs.set i .un) from hm) with q|q
  ·exact n3 l q l ml rfl
  ·exact jD n2 e' hl q
theorem pP{sd:List Slot}{i:Nat}{l:BQ}{ds:List D}(h:(cE sd).Nodup)(e:sd[i]? =some (.own l ds)):l∉cE (sd.set i .un):=jD h e (cU l)
theorem lQ{σ:St}{i:Nat}{o:Option V}(h:σ[i]? =some o):σ.set i o=σ:=by obtain⟨hi,e⟩:=aN.mp h;rw[<-e];exact aCq hi
theorem kC(sd:List Slot)(i:Nat)(x y:Slot):(sd.set i x).set i y=sd.set i y:=by simp
theorem StF.wr{K:aA}{H₀ F H:Hp}{σ:St}{i:Nat}{l:BQ}{ds':List D}{xs':List V}(S:StF K H₀ F H σ sd)(hs:sd[i]? =some (.own l ds))(rl:RepL K F ds' xs'):StF K H₀ F (upd H l (.lst xs')) σ (sd.set i (.own l ds')):=by
 obtain⟨o,h1,h2,n,xs,q,_⟩:=S.slots.get hs;have no:=pP S.nd hs;have S0:=S.le (iF sd i);refine⟨S.base,λb u e=> ?_,λb u e=> ?_, ?_, ?_⟩
 ·rw[bO (cH e n)];exact S.sub _ _ e
 ·by_cases h:b=l
  ·subst h;rw[cD] at e;cases e;trivial
  ·rw[bO h] at e;exact S.smp _ _ e
 ·have q1:SlotsOk K F (upd H l (.lst xs')) (sd.set i .un) σ:=S0.slots.mono (Same.refl _) λl' hl=>by
   obtain⟨n',ys,q',_⟩:=S0.slots.owns hl;have hne:l'≠l:=λz=>no (z▸hl)
   exact⟨n',λys e=>by rw[bO hne];exact e⟩
  have q2:=q1.set (z:=.own l ds') (o:=some (.ref l)) ⟨rfl,n,xs',cD,rl⟩ i;rw[kC,lQ (by rw[h1,h2])] at q2;exact q2
 ·have:=jS (z:=Slot.own l ds') i S0.nd λl' e=>by rw[aJ.mp e];exact .inl no
  rw[kC] at this;exact this.1
theorem mJ(i:Nat){l:BQ}{sts:List BU}(hs:sd[i]? =some (.own l ds))(h:PSd X (sd.set i (.val (.lst ds))) sts E):PSd X sd sts E:=.mk λσ F H S=>by obtain⟨o,h1,h2,n,xs,q,rl⟩:=S.slots.get hs;have S0:=S.le (iF sd i);obtain⟨S1,s1⟩:=S0.freeze q n (pP S.nd hs);have S2:=S1.set (d:=.lst ds) (v:=.ref l) i (by simp only[Rep];exact⟨l,xs,rfl,cD,rl.mono s1⟩);rw[kC,lQ (by rw[h1,h2])] at S2;exact aHW s1 (h σ _ H S2)
theorem nX(i:Nat){x:Str}{p ap cp:Pos}{l:BQ}(hs:sd[i]? =some (.own l ds))(hx:PE X (.Name x p) (lH i))(h:PEd X sd e (.val d))(hl:ds.length<=1000)(hE:E.nx (sd.set i (.own l (ds++[d]))))
  (hst:AD (e::[]) X.env=(false,eval e X.env)::AD [] X.env:=by rfl)
  (hm:PE X (.Call (.Attribute (.Name x p) "append" ap) [e] [] cp) (tBM X.K "list" rZ (lH i) (oW (wE X e) aFr)):=by exact aFG jX mW mX sQ (pv _) (fP gR pa_nil))
  (hsw:Ak (.Call (.Attribute (.Name x p) "append" ap) [e] [] cp) none pos.line X.env=pure false:=by rfl):
  PSd1 X sd (.Expr (.Call (.Attribute (.Name x p) "append" ap) [e] [] cp) pos) E:=.mk λσ F H S=>
 (rJ hm hsw).to (by
  obtain⟨o,h1,h2,n,xs,q,rl⟩:=S.slots.get hs;refine⟨.ref l,by rw[h1,h2],.inl ⟨rfl,xs,.of q⟩,(h σ F H S).imp λv H1 ⟨F1,S1,s1,q1⟩=> ?_⟩;obtain⟨o',h1',h2',n',xs',q',rl'⟩:=S1.slots.get hs
  exact⟨l,xs',v,rfl,rfl,q',by rw[rl'.len];exact fX hl,_,F1,S1.wr hs (rl'.app (.one q1)),s1,hE⟩)
theorem vM(i:Nat){x:Str}{p ap cp:Pos}{l:BQ}{ds2:List D}(hs:sd[i]? =some (.own l ds))(hx:PE X (.Name x p) (lH i))(h:PEd X sd e (.val (.lst ds2)))(hl:ds.length+ds2.length<=1000)(hE:E.nx (sd.set i (.own l (ds++ds2))))
  (hst:AD (e::[]) X.env=(false,eval e X.env)::AD [] X.env:=by rfl)
  (hm:PE X (.Call (.Attribute (.Name x p) "extend" ap) [e] [] cp) (tBM X.K "list" aDP (lH i) (oW (wE X e) aFr)):=by exact aFG jX PySem.F.slot_list_extend PySem.F.type_list_extend aEw (pv _) (fP gR pa_nil))
  (hsw:Ak (.Call (.Attribute (.Name x p) "extend" ap) [e] [] cp) none pos.line X.env=pure false:=by rfl):
  PSd1 X sd (.Expr (.Call (.Attribute (.Name x p) "extend" ap) [e] [] cp) pos) E:=.mk λσ F H S=>
 (rJ hm hsw).to (by
  obtain⟨o,h1,h2,n,xs,q,rl⟩:=S.slots.get hs;refine⟨.ref l,by rw[h1,h2],.inl ⟨rfl,xs,.of q⟩,(h σ F H S).imp λv H1 ⟨F1,S1,s1,q1⟩=> ?_⟩;obtain⟨o',h1',h2',n',xs',q',rl'⟩:=S1.slots.get hs;simp only[ResOk,Rep] at q1;obtain⟨b,zs,rfl,hb,rb⟩:=q1
  exact⟨l,b,xs',zs,rfl,rfl,q',S1.sub _ _ hb,by rw[rl'.len,rb.len];exact cW (fX hl),_,F1,S1.wr hs (rl'.app rb),s1,hE⟩)
noncomputable def spC(K:aA)(n:Nat)(C:List D->R->Prop):Sp:=λvs H Q _=>vs.length=n/\Smp H/\∃ds r,RepL K H ds vs/\C ds r/\∀v H',aCw K H H' r v->Q v H'
noncomputable def spF(K:aA)(n:Nat)(C:List D->R->Prop):Sp:=λvs H Q _=>vs.length=n/\Smp H/\∃F ds r,Same F H/\RepL K F ds vs/\C ds r/\∀v F2 F3 H',Same F F2->Same F2 F3->Same F3 H'->Same H H'->Smp H'->(∀b o,H b=some o->F b=none->F3 b=none)->ResOk K F2 F3 [] r v->Q v H'
noncomputable def rE(F H:Hp):Hp:=λb=>match F b with
 |some o=>some o
 |none=>H b
theorem rR{F H:Hp}:Same F (rE F H):=λb o e=>by unfold rE;rw[e]
theorem rM{F H:Hp}{b:BQ}(h:F b=none):rE F H b=H b:=by unfold rE;rw[h]
theorem FnOk.framed{P:AG}{w:AL}{K:aA}{mg:Str->Option BO}{base:BS}{k n:Nat}{f:BQ}{fd:AY}{ps:List Str}{C:List D->R->Prop}(G:FnOk P w K mg base CX0 k f fd ps (spC K n C)):FnOk P w K mg base CX0 k f fd ps (spF K n C):=by
 refine⟨λvs H Q E h=> ?_,λA outer s H args us vs Q E hr e0 hb rv h=> ?_⟩
 ·obtain⟨hl,sm,F,ds,r,sF,rl,c,_⟩:=h;exact G.len vs F (λ_ _=>True) E ⟨hl,sm.sub sF,ds,r,rl,c,λ_ _ _=>trivial⟩
 ·obtain⟨hl,sm,F,ds,r,sF,rl,c,q⟩:=h;have e1:aKC P w K mg base A outer s F:=⟨e0.frames,e0.mod,λb o e=>⟨(e0.bs b o e).1,sF.free (e0.bs b o e).2⟩,e0.bsz,e0.funs,λb hb=>sF.free (e0.frf b hb),λb o e=>(e0.hok b o (sF b o e)).smp (sm b o (sF b o e)),e0.bare⟩;refine BB (G.run A outer s F args us vs (λv F3=>aCw K F F3 r v) E hr e1 hb rv ⟨hl,sm.sub sF,ds,r,rl,c,λv H' z=>z⟩) λrr s' hrr=> ?_
  cases rr with
  |error e=>exact hrr
  |ok fl=>
   cases fl with
   |ret u=>
    obtain⟨v,F3,ho,ha,un,hk,ru,F2,s1,s2,sm3,res⟩:=hrr
    have keepF:∀b o,H b=some o->F b=none->F3 b=none:=λb o e n=>by
     have lt:=e0.hok.lt e;cases g:s.heap.get? b with
     |none=>
      exfalso;have ob:=e0.hok b o e;have z:=sm b o e;cases o with
      |lst xs=>obtain⟨_,_,_,_,g'⟩:=ob;rw[g] at g';cases g'
      |tup xs=>obtain⟨_,_,_,oo,g',_⟩:=ob;rw[g] at g';cases g'
      |dK kvs=>obtain⟨_,_,_,_,oo,_,_,g',_⟩:=ob;rw[g] at g';cases g'
      |frz o2 u2=>obtain⟨g',_⟩:=ob;rw[g] at g';cases g'
      |ext φ=>obtain⟨_,⟨oo,g'⟩,_⟩:=ob;rw[g] at g';cases g'
      |_=>exact z
     |some ob=>exact un.free b ob g n (by simp)
    have keepO:∀b o,H b=some o->F b=none->∀ob,s.heap.get? b=some ob->s'.heap.get? b=some ob:=λb o e n ob g=>un.keep b ob g n (λhb=>by have:=e0.frf b hb;rw[e] at this;cases this) (by simp)
    have sH:Same H (rE F3 H):=λb o e=>by
     cases g:F b with
     |none=>rw[rM (keepF b o e g)];exact e
     |some o'=>have:=sF b o' g;rw[e] at this;cases this;exact rR _ _ (s2 _ _ (s1 _ _ g))
    have smM:Smp (rE F3 H):=λb o e=>by
     cases g:F3 b with
     |some o'=>have:=rR (H:=H) b o' g;rw[e] at this;cases this;exact sm3 b o g
     |none=>rw[rM g] at e;exact sm b o e
    refine⟨v,rE F3 H,ho,ha,⟨λb o g n hb hx=>un.keep b o g (sF.free n) hb hx,λb o g n hb hx=>un.slot b o g (sF.free n) hb hx,λb o g n hx=> ?_,un.there,λb xs e=>sH _ _ e,λb o u e=>sH _ _ e,λb ps e=>⟨#[],by rw[sH _ _ e];simp⟩⟩,λb o e=> ?_,ru, ?_⟩
    ·rw[rM (un.free b o g (sF.free n) hx)];exact n
    ·have z:=smM b o e;cases g:F3 b with
     |some o'=>have:=rR (H:=H) b o' g;rw[e] at this;cases this;exact(hk b o g).smp z
     |none=>
      rw[rM g] at e
      have n:F b=none:=by
       cases g2:F b with
       |none=>rfl
       |some o2=>rw[s2 _ _ (s1 _ _ g2)] at g;cases g
      have st:=(e0.hok b o e).smp (F:=λ_=>none) z
      have:ObjOk P w (fun _=>none) s'.heap b o:=st.stay (fun b2 u hb2 gg=>by
       rcases hb2 with rfl|hb2
       ·exact keepO _ o e n u gg
       ·cases hb2) (λb2 hb2=>nomatch hb2) λb2 xs hb2=>nomatch hb2
      exact this.smp z
    ·exact q v F2 F3 (rE F3 H) s1 s2 rR sH smM keepF res
   |_=>exact hrr
structure bL(P:AG)(w:AL)(K:aA)(mg:Str->Option BO)(base:BS)(x:Str)(k n:Nat)(C:List D->R->Prop):Prop where
 ex:∃ (f:BQ) (fd:AY) (ps:List Str),mg x=some (.ref f)/\eE K (.ref f)=true/\Binds K fd ps []/\FnOk P w K mg base CX0 k f fd ps (spC K n C)
theorem bW{x:Str}{p:Pos}{k n:Nat}{C:List D->R->Prop}(G:bL X.prog X.w X.K X.mg X.base x k n C)(hr:Room k X.A)(hg:Gl X x)(ha:PAd X sd (e::es) (ds.map R.val))(hc:C ds r)(hb:match r with | .bor _=>False|_=>True)(hn:ds.length=n)
  (hdb:(x==("__debug__":Str))=false:=by decide) (he:AD (e::es) X.env=(false,eval e X.env)::AD es X.env:=by rfl) (hpl:(Aw pos (AD es X.env)).any (·.1)=false:=by rfl):
  PEd X sd (.Call (.Name x p) (e::es) [] pos) r:=.mk λσ F H S=>by
 obtain⟨f,fd,ps,hm,hk,bd,G⟩:=G.ex;refine(aCT (FnOk.framed G) hr hg hm hk bd .nil aLs xZ hdb he hpl).to ((ha σ F H S).imp λvs H1 ⟨F1,S1,s1,q1⟩=> ?_);have rl:=q1.vals;refine⟨by rw[dM,rl.len];exact hn,S1.smp,F1,ds,r,S1.sub,by rw[dM];exact rl,hc,λv F2 F3 H' s2 s3 s4 sH sm kp res=> ?_⟩
 have no:∀l,l∈cE sd->F2 l=none/\F3 l=none:=λl hl=>by obtain⟨n1,xs,q,_⟩:=S1.slots.owns hl;have n3:=kp l _ q n1;exact⟨s3.free n3,n3⟩
 refine⟨F2,⟨λb o e=>s2 _ _ (S1.base _ _ e),s3.trans s4,sm,S1.slots.mono s2 λl hl=>⟨(no l hl).1,λys e=>sH _ _ e⟩,S1.nd⟩,s1.trans s2, ?_⟩;cases r with
 |val d=>exact res
 |own ds'=>obtain⟨l,xs,e,n,q,rl',_⟩:=res;exact⟨l,xs,e,n,s4 _ _ q,rl',λhl=>by rw[(no l hl).2] at q;cases q⟩
 |pr d ls=>obtain⟨t,l,xs,y,e,f,g,n,q,rl',_⟩:=res;exact⟨t,l,xs,y,e,f,g,n,s4 _ _ q,rl',λhl=>by rw[(no l hl).2] at q;cases q⟩
 |ox G=>obtain⟨ls,nd,h,g⟩:=res;refine⟨ls,nd,λl hl=> ?_,λF' H'' sF k=>g F' H'' sF λl hl ob q=>k l hl ob (s4 _ _ q)⟩;obtain⟨n,⟨ob,q,w⟩,_⟩:=h l hl;exact⟨n,⟨ob,s4 _ _ q,w⟩,λhm=>by rw[(no l hm).2] at q;cases q⟩
 |bor ds'=>exact hb.elim
noncomputable def R.toD:R->D
 |.val d=>d
 |.own ds=>.lst ds
 |.bor ds=>.lst ds
 |.pr d ls=>.tup [d,.lst ls]
 |.ox _=>.non
noncomputable def init(n:Nat)(ds:List D):List Slot:=ds.map Slot.val++gI (n-ds.length) .un
theorem aBv{K:aA}{F H:Hp}:∀n:Nat,SlotsOk K F H (gI n .un) (gI n none)
 |0=>rfl
 |n+1=>⟨none,gI n none,rfl,trivial,aBv n⟩
theorem qJ{K:aA}{F H:Hp}{m n:Nat}:∀ {ds:List D}{vs:List V},RepL K F ds vs->SlotsOk K F H (ds.map Slot.val++gI n .un) (vs.map some++gI n none)
 |[],vs,r=>by simp only[RepL] at r;subst r;exact aBv n
 |d::ds,vs,r=>by obtain⟨y,ys,rfl,a,rl⟩:=r.uncons;exact⟨some y,_,rfl,⟨y,rfl,a⟩,qJ (m:=m) rl⟩
theorem qP(n:Nat):∀ds:List D,cE (ds.map Slot.val++gI n .un)=[]
 |[]=>by
  induction n with
  |zero=>rfl
  |succ n ih=>exact ih
 |_::ds=>qP n ds
theorem aHC{P:AG}{w:AL}{K:aA}{mg:Str->Option BO}{base:BS}{x qual:Str}{st:BU}{f:BQ}{fd:AY}{N ps:List Str}{k:Nat}{C:List D->R->Prop}(F:Fun K x qual st f fd)(S:pH N ps (bI st))
  (body:∀ (cdv:BO) (A:BR) (outer:List Env) (s:BP) (H:Hp) (E:XK),Room k (A.deeper (Aj qual (bI st) s.heap.objs.size f cdv))→∀ds r,ds.length=ps.length→C ds r→
   PSd (oS CX0 P w K mg base N qual (bI st) f cdv A outer s H E).nox (init N.length ds) (iK st) {nx:=λ_=>r=.val .non,rt:=λr'=>r'=r}):FnOk P w K mg base CX0 (k+1) f fd ps (spC K ps.length C):=by
 refine F.ok S (λvs H Q E h=>h.1) λcdv A outer s H vs Q E hr h=> ?_
 obtain⟨hl,sm,ds,r,rl,c,q⟩:=h;have hds:ds.length=ps.length:=by rw[<-rl.len];exact hl
 refine⟨_,rA, ?_⟩;have hlen:N.length-vs.length=N.length-ds.length:=by rw[rl.len]
 have S0:StF K H H H (L2.start N vs) (init N.length ds):=by
  refine⟨Same.refl _,Same.refl _,sm, ?_, ?_⟩
  ·unfold L2.start init;rw[hlen];exact qJ (m:=0) rl
  ·unfold init;rw[qP];exact eQ
 refine(body cdv A outer s H E hr ds r hds c (L2.start N vs) H H S0).imp ?_ ?_ (λ_ _ ⟨_,_,_,_,z⟩=>z) λ_ _ ⟨_,_,_,_,z⟩=>z
 ·rintro σ' H' ⟨sd',F',S',s',e⟩;have e:r=.val .non:=e;subst e;exact q .non H' ⟨F',S'.base,S'.sub,S'.smp,by simp only[ResOk,Rep]⟩
 ·rintro v H' ⟨r',ro,e⟩;have e:r'=r:=e;subst e;exact q v H' ro
theorem eJ{P:AG}{w:AL}{K:aA}{mg:Str->Option BO}{base:BS}{x qual:Str}{st:BU}{f:BQ}{fd:AY}{N ps:List Str}{k:Nat}{C:List D->R->Prop}(F:Fun K x qual st f fd)(S:pH N ps (bI st))
  (hm:mg x=some (.ref f)) (hb:∀ (kV doc pm:BO) (an:Option BQ) (cdv ct:BO) (us:List BO),us.length=ps.length->bindArgs (gB x qual (kR st) (iK st) (bI st) .none kV doc pm an cdv ct) ⟨us,[]⟩=pure (ps.zip us))
  (body:∀ (cdv:BO) (A:BR) (outer:List Env) (s:BP) (H:Hp) (E:XK),Room k (A.deeper (Aj qual (bI st) s.heap.objs.size f cdv))→∀ds r,ds.length=ps.length→C ds r→
   PSd (oS CX0 P w K mg base N qual (bI st) f cdv A outer s H E).nox (init N.length ds) (iK st) {nx:=λ_=>r=.val .non,rt:=λr'=>r'=r}):bL P w K mg base x (k+1) ps.length C:=
 ⟨f,fd,ps,hm,F.kp,F.binds hb,aHC F S body⟩
end
section
variable {X:Cx}{sd:List Slot}{e a b c tg iter:Expr}{es:List Expr}{pos:Pos}{r ra rb:R}{d:D}{ds:List D}{st:BU}{rest:List BU}{E:jR}
def ItD(K:aA)(F₁:Hp)(P:Hp->Hp->Prop)(J:It)(ds:List D):Prop:=∀ (F H:Hp),Same F₁ F->Same F H->Smp H->P F H->∀i,(i<ds.length->J.go i H)/\(ds.length<=i->J.stop i H)/\
 ∀x H' d,ds[i]? =some d->J.yld i H x H'->∃F',Same F F'/\Rep K F' d x/\∀H₀ σ sd,StF K H₀ F H σ sd->StF K H₀ F' H' σ sd
abbrev PT0:Hp->Hp->Prop:=λ_ _=>True
structure PId(X:Cx)(sd:List Slot)(P:Hp->Hp->Prop)(tg iter:Expr)(ds:List D):Prop where
 run:∀ (σ:St) (F H:Hp),StF X.K X.B₀ F H σ sd->
 wI X tg iter σ H λJ H1=>∃F1,StF X.K X.B₀ F1 H1 σ sd/\Same F F1/\ItD X.K F1 P J ds
instance {X:Cx}{sd:List Slot}{P:Hp→Hp→Prop}{tg iter:Expr}{ds:List D}:CoeFun (PId X sd P tg iter ds) (fun _=>∀ (σ:St) (F H:Hp),StF X.K X.B₀ F H σ sd→
 wI X tg iter σ H λJ H1=>∃F1,StF X.K X.B₀ F1 H1 σ sd/\Same F F1/\ItD X.K F1 P J ds):=⟨PId.run⟩
theorem _root_.L2.PI.to{wi:TI}{σ:St}{H:Hp}{R:It->Hp->Prop}(h:PI X tg iter wi)(q:wi σ H R):wI X tg iter σ H R:=λpins s I=>h pins s σ H R I q
theorem gU(h:PEd X sd iter (.val (.lst ds))):PId X sd PT0 tg iter ds:=.mk λσ F H S=>
 (aKj gR).to ((h σ F H S).imp fun v H1 ⟨F1,S1,s1,q1⟩=>by
  simp only[ResOk,Rep] at q1;obtain⟨l,xs,rfl,hl,rl⟩:=q1;refine⟨l,rfl,⟨xs,.of (S1.sub _ _ hl)⟩,F1,S1,s1,λF' H' sF sH sm _ i=> ?_⟩;have hl':=sH _ _ (sF _ _ hl);refine⟨λhi=>⟨xs,xs[i]'(by rw[rl.len];exact hi),.of hl',by simp[rl.len,hi]⟩,λhi=>⟨xs,.of hl',by rw[rl.len];exact hi⟩,λx H2 d hd y=> ?_⟩;obtain⟨rfl,y⟩:=y;obtain⟨v,hv,rv⟩:=rl.get hd;have:=y xs (.of hl');rw[hv] at this;cases this
  exact⟨F',Same.refl _,rv.mono sF,λ_ _ _ S=>S⟩)
theorem pO(h:PEd X sd iter (.val (.tup ds))):PId X sd PT0 tg iter ds:=.mk λσ F H S=>
 (aLY gR).to ((h σ F H S).imp fun v H1 ⟨F1,S1,s1,q1⟩=>by
  simp only[ResOk,Rep] at q1;obtain⟨l,xs,rfl,hl,rl⟩:=q1;refine⟨l,rfl,⟨xs,.of (S1.sub _ _ hl)⟩,F1,S1,s1,λF' H' sF sH sm _ i=> ?_⟩;have hl':=sH _ _ (sF _ _ hl);refine⟨λhi=>⟨xs,xs[i]'(by rw[rl.len];exact hi),.of hl',by simp[rl.len,hi]⟩,λhi=>⟨xs,.of hl',by rw[rl.len];exact hi⟩,λx H2 d hd y=> ?_⟩;obtain⟨rfl,y⟩:=y;obtain⟨v,hv,rv⟩:=rl.get hd;have:=y xs (.of hl');rw[hv] at this;cases this
  exact⟨F',Same.refl _,rv.mono sF,λ_ _ _ S=>S⟩)
noncomputable def jJ(lo:Int)(n:Nat):List D:=(bK n).map λ(k:Nat)=>D.int (lo+(k:Int))
theorem iJ(lo:Int)(n:Nat):(jJ lo n).length=n:=by simp[jJ]
theorem kK{lo:Int}{n i:Nat}{d:D}(h:(jJ lo n)[i]? =some d):i<n/\d=.int (lo+(i:Int)):=by
 unfold jJ at h;rw[bF] at h
 by_cases hi:i<n
 ·rw[qS hi] at h;exact⟨hi,(cC.inj h).symm⟩
 ·rw[dW (by simpa using hi)] at h;cases h
theorem aDZ{K:aA}{F₁:Hp}{lo:Int}{n:Nat}:ItD K F₁ PT0 (Itr lo n) (jJ lo n):=λF H _ _ _ _ i=>by refine⟨λhi=>by rw[iJ] at hi;exact hi,λhi=>by rw[iJ] at hi;exact hi,λx H' d hd y=> ?_⟩;obtain⟨rfl,rfl⟩:=y;obtain⟨_,rfl⟩:=kK hd;exact⟨F,Same.refl _,by simp only[Rep],λ_ _ _ S=>S⟩
theorem kJ{p:Pos}{n:Nat}(hg:Gl X "range")(hm:X.mg "range"=none)(h:PEd X sd a (.val (.int (n:Int))))(hn:(n:Int)<2^62)(hs:AD [a] X.env=[(false,eval a X.env)]:=by rfl):PId X sd PT0 tg (.Call (.Name "range" p) [a] [] pos) (jJ 0 n):=.mk λσ F H S=>
 (aEN hg hm xZ hs).to ((aE h aU trivial hs σ F H S).imp fun vs H1 ⟨F1,S1,s1,q1⟩=>by
  cases q1 with
  |cons q1 q2=>
   cases q2;simp only[ResOk,Rep] at q1;subst q1
   exact⟨(n:Int),rfl,by omega,hn,F1,S1,s1,by rw[dE];exact aDZ⟩)
structure PGd(X:Cx)(sd:List Slot)(tg:Expr)(d:D)(sd':List Slot):Prop where
 run:∀ (σ:St) (F H:Hp) (v:V),StF X.K X.B₀ F H σ sd->Rep X.K F d v->wG X tg v σ H λσ' H'=>∃F',StF X.K X.B₀ F' H' σ' sd'/\Same F F'
instance {X:Cx}{sd:List Slot}{tg:Expr}{d:D}{sd':List Slot}:CoeFun (PGd X sd tg d sd') (λ_=>∀ (σ:St) (F H:Hp) (v:V),StF X.K X.B₀ F H σ sd->Rep X.K F d v->wG X tg v σ H λσ' H'=>∃F',StF X.K X.B₀ F' H' σ' sd'/\Same F F'):=⟨PGd.run⟩
theorem _root_.L2.PG.to{t:TG}{v:V}{σ:St}{H:Hp}{Q:St->Hp->Prop}(h:PG X tg t)(q:t v σ H Q):wG X tg v σ H Q:=λpins s u I r=>h pins s σ H v u Q I r q
theorem eV(j:Nat)(h:PG X tg (aFB j)):PGd X sd tg d (sd.set j (.val d)):=.mk λσ F H v S q=>h.to ⟨F,S.set j q,Same.refl _⟩
noncomputable def gNs:List Nat->TGs
 |[]=>aPk
 |j::js=>aLF (aFB j) (gNs js)
noncomputable def aCH:List Slot->List Nat->List D->List Slot
 |sd,j::js,d::ds=>aCH (sd.set j (.val d)) js ds
 |sd,_,_=>sd
theorem aHH{K:aA}{H₀ F H:Hp}{Q:St->Hp->Prop}:∀ {js:List Nat}{ds:List D}{vs:List V}{σ:St}{sd:List Slot},js.length=ds.length->RepL K F ds vs->StF K H₀ F H σ sd->(∀σ',StF K H₀ F H σ' (aCH sd js ds)->Q σ' H)->gNs js vs σ H Q
 |[],[],vs,σ,sd,_,r,S,k=>by simp only[RepL] at r;exact⟨r,k σ S⟩
 |j::js,d::ds,vs,σ,sd,hl,r,S,k=>by obtain⟨y,ys,rfl,q,rl⟩:=r.uncons;exact⟨y,ys,rfl,aHH (by simpa using hl) rl (S.set j q) k⟩
 |[],_::_,_,_,_,hl,_,_,_=>by simp at hl
 |_::_,[],_,_,_,hl,_,_,_=>by simp at hl
theorem kQ{k:Nat}{js:List Nat}(hc:X.calm=true)(h:PGs X es (gNs js))(hl:js.length=ds.length)(hn:(BH es X.env).length=ds.length)(hst:(BH es X.env).findIdx? (·.1)=none:=by rfl):PGd X sd (.Tuple es k pos) (.tup ds) (aCH sd js ds):=.mk λσ F H v S q=>
 (aNb hc h hn hst).to (by
  simp only[Rep] at q;obtain⟨a,xs,rfl,ha,rl⟩:=q
  exact⟨a,xs,rfl,.of (S.sub _ _ ha),rl.len,aHH hl rl S λσ' S'=>⟨F,S',Same.refl _⟩⟩)
theorem aJh{sd':List Slot}(h:PEd X sd e (.val d))(hg:PGd X sd tg d sd')(hE:E.nx sd')(hs:swapsWithSole [tg] e pos.line X.env=pure false:=by rfl)(hw:swappedStores [tg] e X.env=pure none:=by rfl)
  (h1:(BH [tg] X.env).map (·.2)=[assign tg X.env]:=by rfl):PSd1 X sd (.Assign [tg] e pos) E:=.mk λσ F H S=>
 (aLL gR aNB hs hw h1).to ((h σ F H S).imp λv H1 ⟨F1,S1,s1,q1⟩=>(hg σ F1 H1 v S1 q1).imp λσ' H' ⟨F',S',s'⟩=>⟨sd',F',S',s1.trans s',hE⟩)
theorem uK{body:List BU}{P:Hp->Hp->Prop}(Sd Td:Nat->List Slot)(hi:PId X sd P tg iter ds)(h0:Le sd (Sd 0))(hg:∀k d,ds[k]? =some d->PGd X (Sd k) tg d (Td k))
  (hb:∀k d,ds[k]? =some d->PSd X (Td k) body {E with nx:=λsd'=>Le sd' (Sd (k+1)),ct:=λsd'=>Le sd' (Sd (k+1)),bk:=E.nx}) (hE:E.nx (Sd ds.length)) (hP:∀k σ F H,StF X.K X.B₀ F H σ (Sd k)->P F H:=by intros;trivial)
  (hc:X.calm=true:=by rfl) (hp:PassesOwn (AE X.prog X.w) X.A X.env X.xe:=by exact PassesOwn.never) (hs:∀x,foldedSetIterable iter X.env x=pure x:=by intro _;rfl):PSd1 X sd (.For tg iter body [] pos) E:=.mk λσ F H S=>
 (aHv hp hc aOU aNB rA hs).to (by
  intro pins s I;refine thn (hi σ F H S pins s I) λv s1 h1=>thn h1 λitv s2 h2=> ?_
  obtain⟨it,fp,tn,J,H2,e,I2,T,st2,f2,F1,S1,s1',itd⟩:=h2;refine⟨it,fp,tn,J,H2,e,I2,T,st2,f2, ?_⟩;refine⟨λi m σ' H'=>m=ds.length-i/\i<=ds.length/\∃F',StF X.K X.B₀ F' H' σ' (Sd i)/\Same F1 F',⟨ds.length,by simp,bS _,F1,S1.le h0,Same.refl _⟩, ?_⟩;rintro i m σ' H' ⟨rfl,hil,F',S',s'⟩;obtain⟨g1,g2,g3⟩:=itd F' H' s' S'.sub S'.smp (hP _ _ _ _ S') i
  by_cases hlt:i<ds.length
  ·refine .inr ⟨g1 hlt,λσ2 H2=>∃F2,StF X.K X.B₀ F2 H2 σ2 (Sd (i+1))/\Same F1 F2,λσ2 H2 ⟨F2,S2,s2⟩=>⟨ds.length-(i+1),by omega,rfl,hlt,F2,S2,s2⟩,λx H2 y=> ?_⟩;have hd:ds[i]? =some ds[i]:=by simp[hlt]
   obtain⟨F2,s2,rp,up⟩:=g3 x H2 ds[i] hd y;refine(hg i _ hd σ' F2 H2 x (up _ _ _ S') rp).imp λσ3 H3 ⟨F3,S3,s3⟩=> ?_
   have base:Same F1 F3:=(s'.trans s2).trans s3;refine(hb i _ hd σ3 F3 H3 S3).imp ?_ ?_ ?_ ?_
   ·rintro σ4 H4 ⟨sd4,F4,S4,s4,le⟩;exact⟨F4,S4.le le,base.trans s4⟩
   ·exact λv H4 q=>q
   ·rintro σ4 H4 ⟨sd4,F4,S4,s4,q⟩;exact⟨sd4,F4,S4,(s1'.trans base).trans s4,q⟩
   ·rintro σ4 H4 ⟨sd4,F4,S4,s4,le⟩;exact⟨F4,S4.le le,base.trans s4⟩
  ·have e:i=ds.length:=by omega
   subst e
   exact .inl ⟨g2 (aM _),Sd ds.length,F',S',s1'.trans s',hE⟩)
theorem Inv.retrack{pins:List (BQ×BZ)}{σ:St}{H F:Hp}{s s':BP}(I0:Inv X pins σ H s):∀ (ls:List BQ),ls.Nodup->(∀l∈ls,F l=none/\(∃xs,H l=some xs/\Wr l xs)/\∀o,s.heap.get? l=some o->s'.heap.get? l=some o)->Inv X pins σ F s'->Inv X pins σ (λb=>if b∈ls then H b else F b) s'
 |[],_,_,I=>by simpa using I
 |l::ls,nd,h,I=>by
  obtain⟨nl,nd'⟩:=cF.mp nd;have J:=Inv.retrack I0 ls nd' (λl' hl=>h l' (aI _ hl)) I;obtain⟨n,⟨xs,hx,wx⟩,kp⟩:=h l aH
  have e:(λb=>if b∈l::ls then H b else F b)=upd (λb=>if b∈ls then H b else F b) l xs:=by
   funext b;unfold upd
   by_cases hb:b=l
   ·subst hb;simp[hx]
   ·simp[hb]
  rw[e];have n':(λb=>if b∈ls then H b else F b) l=none:=by simp[nl,n]
  have ob:=I0.hok l _ hx;clear e;generalize (λb=>if b∈ls then H b else F b)=G at J n' ⊢;refine⟨J.ok,J.os,J.bare,⟨J.base.keep,J.base.slot,λb u g n0 hx0=> ?_,J.base.there,λb ys g=> ?_,λb u ys g=> ?_,λb ps g=> ?_⟩,J.loc,J.cell, ?_,λx c g=> ?_,λp hp=> ?_,J.hok.track n' ?_,J.len⟩
  ·have hb:b≠l:=λq=>by subst q;have:=I0.base.free b u g n0 hx0;rw[hx] at this;cases this
   rw[bO hb];exact J.base.free b u g n0 hx0
  ·have q:=J.base.tups b ys g;rw[bO (cH q n')];exact q
  ·have q:=J.base.frzs b u ys g;rw[bO (cH q n')];exact q
  ·obtain⟨m,q⟩:=J.base.tbls b ps g;exact⟨m,by rw[bO (cH q n')];exact q⟩
  ·rw[bO (λq=>by have:=I0.free;rw[q,hx] at this;cases this)];exact J.free
  ·rw[bO (λq=>by have:=I0.freeC x c g;rw[q,hx] at this;cases this)];exact J.freeC x c g
  ·obtain⟨g,n0,rr⟩:=J.pin p hp;refine⟨g, ?_,rr⟩;rw[bO (λq=>by have:=(I0.pin p hp).2.1;rw[q,hx] at this;cases this)];exact n0
  ·cases xs with
   |lst xs=>obtain⟨z,its,nn,rv,ho⟩:=ob;exact⟨z,its,nn,rv,kp _ ho⟩
   |dK kvs=>obtain⟨z,y,vs,r,o,es,ep,e,c⟩:=ob;exact⟨z,y,vs,r,o,es,ep,kp _ e,c⟩
   |ext φ=>obtain⟨h1,⟨o1,h2⟩,h3⟩:=ob;exact⟨h3 _ _ h1 kp,⟨o1,kp _ h2⟩,h3⟩
   |_=>exact wx.elim
theorem aMU{P:AG}{w:AL}{H:Hp}{h:BS}{l:BQ}{xs:HO}(wx:Wr l xs)(q:H l=some xs)(ok:ObjOk P w H h l xs):∃ys o,H l=some ys/\Wr l ys/\h.get? l=some o/\∀v,o.data≠ .cell v:=by
 cases xs with
 |lst xs=>obtain⟨_,its,nn,_,ho⟩:=ok;exact⟨_,_,q,trivial,ho,λv z=>by cases z⟩
 |dK kvs=>obtain⟨_,_,_,_,o,es,ep,e,_,d,_⟩:=ok;exact⟨_,_,q,trivial,e,λv z=>by rw[d] at z;cases z⟩
 |ext φ=>obtain⟨o,e,n⟩:=id wx;subst e;exact⟨_,o,q,wx,ok.1,n⟩
 |_=>exact wx.elim
theorem aFX{σ:St}{F H:Hp}(S:StF X.K X.B₀ F H σ sd)(hr:match r with | .bor _=>False|_=>True)(h:wE X e σ F λv F3=>aCw X.K F F3 r v):wE X e σ H λv H'=>∃F',StF X.K X.B₀ F' H' σ sd/\Same F F'/\ResOk X.K F' H' sd r v:=λpins s I=>by
 have I1:Inv X pins σ F s:=I.less S.sub S.base (S.smp.sub S.sub)
 have ob:∀l∈cE sd,∃xs o,H l=some xs/\Wr l xs/\s.heap.get? l=some o/\∀v,o.data≠ .cell v:=λl hl=>by obtain⟨n,xs,q,wx⟩:=S.slots.owns hl;exact aMU wx q (I.hok l _ q)
 have I2:Inv X (pins++oB (cE sd) s.heap) σ F s:=I1.pins_of λp hp=>(bC.mp hp).elim (λz=>I1.pin p (aS _ z)) λz=>by
  obtain⟨hb,g⟩:=tL z;obtain⟨xs,o,q,_,ho,hc⟩:=ob p.1 hb;rw[g] at ho;cases ho;refine⟨g,(S.slots.owns hb).1,λy=> ?_,λy=> ?_,hc⟩
  ·have:=I.free;rw[<-y,q] at this;cases this
  ·obtain⟨_,o',ho',_⟩:=I.ok.funs.mem y;have:=I.base.free p.1 o' ho' (I.ok.frf p.1 y) λz=>I.ok.exfs p.1 z y
   rw[q] at this;cases this
 refine thn (h _ s I2) λu s' ⟨v,F3,I3,rv,F2,s1,s2,sm3,res⟩=> ?_
 have kp:∀l∈cE sd,F3 l=none/\(∃xs,H l=some xs/\Wr l xs)/\∀o,s.heap.get? l=some o->s'.heap.get? l=some o:=λl hl=>by obtain⟨xs,o,q,wx,ho,_⟩:=ob l hl;have:=I3.pin (l,o) (aS _ (aS _ (jQ hl ho)));exact⟨this.2.1,⟨xs,q,wx⟩,λo' g=>by rw[ho] at g;cases g;exact this.1⟩
 have I4:=Inv.retrack I (cE sd) S.nd kp I3.unpinned;refine⟨v,_,I4,rv,F2,⟨λb o g=>s1 _ _ (S.base _ _ g),λb o g=> ?_,λb o g=> ?_,S.slots.mono s1 λl hl=>⟨s2.free (kp l hl).1,λxs g=>by simpa[hl] using g⟩,S.nd⟩,s1, ?_⟩
 ·have g3:=s2 _ _ g;have:b∉cE sd:=λhb=>by rw[(kp b hb).1] at g3;cases g3
  simp[this,g3]
 ·by_cases hb:b∈cE sd
  ·simp[hb] at g;exact S.smp _ _ g
  ·simp[hb] at g;exact sm3 _ _ g
 ·cases r with
  |val d=>exact res
  |own ds'=>
   obtain⟨l,xs,e,n,q,rl',_⟩:=res;have:l∉cE sd:=λhl=>by rw[(kp l hl).1] at q;cases q
   exact⟨l,xs,e,n,by simp[this,q],rl',this⟩
  |pr d ls=>
   obtain⟨t,l,xs,y,e,f,g,n,q,rl',_⟩:=res;have:l∉cE sd:=λhl=>by rw[(kp l hl).1] at q;cases q
   exact⟨t,l,xs,y,e,f,g,n,by simp[this,q],rl',this⟩
  |ox G=>
   obtain⟨ls,nd,h,g⟩:=res
   have no:∀l∈ls,l∉cE sd:=λl hl hm=>by obtain⟨n,⟨ob,q,w⟩,_⟩:=h l hl;rw[(kp l hm).1] at q;cases q
   refine⟨ls,nd,λl hl=> ?_,λF' H' sF k=>g F' H' sF λl hl ob q=>k l hl ob (by simp[no l hl,q])⟩;obtain⟨n,⟨ob,q,w⟩,_⟩:=h l hl;exact⟨n,⟨ob,by simp[no l hl,q],w⟩,no l hl⟩
  |bor ds'=>exact hr.elim
noncomputable def aKP:Option Slot->Slot
 |some (.val d)=>.val d
 |some (.ox [] G)=>.ox [] G
 |_=>.un
noncomputable def tF(cap:List (Option Nat))(sd:List Slot):List Slot:=cap.map λo=>match o with
 |none=>.un
 |some k=>aKP sd[k]?
theorem aDJ{K:aA}{F H F' H':Hp}{σ:St}(h:SlotsOk K F H sd σ)(s:Same F F'):∀cap:List (Option Nat),SlotsOk K F' H' (tF cap sd) (xV cap σ)
 |[]=>rfl
 |o::cap=>by
  refine⟨_,_,rfl, ?_,aDJ h s cap⟩;cases o with
  |none=>trivial
  |some k=>
   show iT K F' H' (aKP sd[k]?) _;cases q:sd[k]? with
   |none=>trivial
   |some z=>
    cases z with
    |un=>trivial
    |own l ds=>trivial
    |od l ks ds=>trivial
    |ox ls G=>
     cases ls with
     |cons a ls=>trivial
     |nil=>obtain⟨o,h1,v,h2,h3,h4⟩:=h.get q;subst h2;exact⟨v,by simp[h1],λl hl=>(nomatch hl),λF2 H2 s2 _=>h4 F2 H2 (s.trans s2) λl hl=>(nomatch hl)⟩
    |gh d G=>trivial
    |val d=>obtain⟨o,h1,v,h2,rv⟩:=h.get q;subst h2;exact⟨v,by simp[h1],rv.mono s⟩
theorem vG:∀ (cap:List (Option Nat)) (sd:List Slot),cE (tF cap sd)=[]
 |[],_=>rfl
 |o::cap,sd=>by
  have ih:=vG cap sd;cases o with
  |none=>exact ih
  |some k=>
   show cE (aKP sd[k]? ::tF cap sd)=[];cases q:sd[k]? with
   |none=>exact ih
   |some z=>
    cases z with
    |ox ls G=>cases ls<;>exact ih
    |_=>exact ih
noncomputable def unS:Slot->Slot
 |.own _ _=>.un
 |.od _ _ _=>.un
 |.ox [] G=>.ox [] G
 |.ox _ _=>.un
 |z=>z
noncomputable def unO(sd:List Slot):List Slot:=sd.map unS
theorem jT:∀sd:List Slot,cE (unO sd)=[]
 |[]=>rfl
 |.un::r=>jT r
 |.val _::r=>jT r
 |.gh _ _::r=>jT r
 |.own _ _::r=>jT r
 |.od _ _ _::r=>jT r
 |.ox [] _::r=>jT r
 |.ox (_::_) _::r=>jT r
theorem aGn(cap:List (Option Nat))(sd:List Slot):tF cap (unO sd)=tF cap sd:=by
 unfold tF;refine cM λo _=> ?_
 cases o with
 |none=>rfl
 |some k=>
  show aKP (unO sd)[k]? =aKP sd[k]?;unfold unO;rw[bF];cases q:sd[k]? with
  |none=>rfl
  |some z=>
   cases z with
   |ox ls G=>cases ls<;>rfl
   |_=>rfl
theorem zG{K:aA}{F H H':Hp}:∀ {sd:List Slot}{σ:St},SlotsOk K F H sd σ->SlotsOk K F H' (unO sd) σ
 |[],_,h=>h
 |z::zs,σ,h=>by
  obtain⟨o,r,rfl,a,b⟩:=h;refine⟨o,r,rfl, ?_,zG b⟩;cases z with
  |un=>trivial
  |val d=>exact a
  |gh d G=>exact a
  |od l ks ds=>trivial
  |ox ls G=>
   cases ls with
   |cons a ls=>trivial
   |nil=>obtain⟨v,h2,h3,h4⟩:=a;exact⟨v,h2,λl hl=>(nomatch hl),λF2 H2 s2 _=>h4 F2 H2 s2 λl hl=>(nomatch hl)⟩
  |own l ds=>trivial
theorem tP{ds:List D}{i:Nat}{d:D}(p:D->Bool)(h:ds[i]? =some d):(ds.take (i+1)).filter p=(ds.take i).filter p++(if p d then[d] else[]):=by rw[fD,h,aGT];cases hp:p d<;>simp[hp]
theorem jE{elt:Expr}{ifs:List Expr}{scope:Scope}{N M:List Str}{cap:List (Option Nat)}{sc:Scope}{Tb:D->List Slot}(p:D->Bool)(f:D->D)
  (hi:PId X (unO sd) PT0 tg iter ds) (hl:ds.length<=1000)
  (hsc:X.env.scope=sc) (hcn:sR scope sc=true) (hM:X.N=M) (hcap:oY N M scope sc cap=true) (hk:scope.kind=.function)
  (hg:∀cl C fp s H d,d∈ds->PGd (cxB X N scope cl C fp s H) (tF cap sd) tg d (Tb d))
  (hle:∀d,d∈ds->Le (Tb d) (tF cap sd))
  (ht:∀cl C fp s H d,d∈ds->(ifs=[]/\p d=true)\/∃c,ifs=[c]/\PTd (cxB X N scope cl C fp s H) (Tb d) c (p d))
  (he:∀cl C fp s H d,d∈ds->p d=true->PEd (cxB X N scope cl C fp s H) (Tb d) elt (.val (f d)))
  (hc:X.calm=true:=by rfl) (hs:∀x,foldedSetIterable iter X.env x=pure x:=by intro _;rfl):
  PEd X sd (.ListComp elt [⟨tg,iter,ifs,0⟩] scope pos) (.own ((ds.filter p).map f)):=.mk λσ F H S=>by
 refine aFX S trivial ?_;have S0:StF X.K X.B₀ F F σ (unO sd):=⟨S.base,Same.refl _,S.smp.sub S.sub,zG S.slots,by rw[jT];exact eQ⟩;intro pins s I
 have nm:∀y∈scope.names,(y.2=NameKind.free->sc.names.lookup y.1=some NameKind.cell)/\(y.2=NameKind.local->scope.names.lookup y.1=some NameKind.local):=λy hy=>by have q:=gX.mp hcn y hy;simp only[bM,xP,aIl,beq_eq_false_iff_ne,ne_eq,beq_iff_eq] at q;exact⟨λe=>q.1.1.resolve_left λz=>z e,λe=>q.2.resolve_left λz=>z e⟩
 have fre:∀y∈scope.names,y.2=.free->∃c,X.env.cells.lookup y.1=some c:=λy hy e=>I.ok.has y.1 (.inl (by show X.env.scope.names.lookup y.1=_;rw[hsc];exact(nm y hy).1 e))
 rw[eval_ListComp];refine wpAny_comprehension_free (use:=none) rfl hs (aBU fre) hk (λy hy=>(nm y hy).2) ?_;refine thn (hi σ F F S0 pins s I) λv s1 h1=>thn h1 λitv s2 h2=> ?_
 obtain⟨it,fp,tn,J,H2,e,I2,T,st2,f2,F1,S1,s1',itd⟩:=h2;subst e
 have S1b:StF X.K H2 H2 H2 (xV cap σ) (tF cap sd):=⟨Same.refl _,Same.refl _,S1.smp,by
  have q:=aDJ (sd:=unO sd) (H':=H2) S1.slots S1.sub cap;rw[aGn] at q
  exact q,by rw[vG];exact eQ⟩
 refine aGD (N:=N) (cap:=cap) (g:=λv σ2 H3 Q=>∀cl C,wG (cxB X N scope cl C fp s2 H2) tg v σ2 H3 Q) (tt:=λσ2 H3 Q=>∀cl C,aNI (cxB X N scope cl C fp s2 H2) ifs σ2 H3 Q) (te:=λσ2 H3 Q=>∀cl C,wE (cxB X N scope cl C fp s2 H2) elt σ2 H3 Q)
  hc hsc hcn (by rw[hM];exact hcap) hk I2 T st2 f2 (λcl C pi s3 σ3 H3 v u Q I3 ru q=>q cl C pi s3 u I3 ru) (λcl C pi s3 σ3 H3 Q I3 q=>q cl C pi s3 I3) (λcl C pi s3 σ3 H3 Q I3 q=>q cl C pi s3 I3)
  (λi m ys σb H3=>m=ds.length-i/\i<=ds.length/\∃Fb,StF X.K H2 Fb H3 σb (tF cap sd)/\RepL X.K Fb (((ds.take i).filter p).map f) ys) ds.length
  ⟨by simp,bS _,H2,S1b,by simpa using RepL.nil⟩ _ ?_
 rintro i m ys σb H3 ⟨rfl,hil,Fb,Sb,rl⟩;have sF1:Same F1 Fb:=λb o g=>Sb.base _ _ (S1.sub _ _ g)
 obtain⟨g1,g2,g3⟩:=itd Fb H3 sF1 Sb.sub Sb.smp trivial i
 by_cases hlt:i<ds.length
 ·have hd:ds[i]? =some ds[i]:=by simp[hlt]
  have hm:ds[i]∈ds:=gY hlt
  have ylen:ys.length<=i:=by rw[rl.len,aB];exact cO (aCr _ _) (by simp;omega)
  refine .inr ⟨g1 hlt,fX (by omega),λys' σ' H'=>∃Fb',StF X.K H2 Fb' H' σ' (tF cap sd)/\RepL X.K Fb' (((ds.take (i+1)).filter p).map f) ys',λys' σ' H' ⟨Fb',Sb',rl'⟩=>⟨ds.length-(i+1),by omega,rfl,hlt,Fb',Sb',rl'⟩,λx H4 y cl C=> ?_⟩;obtain⟨F4,s4,rp,up⟩:=g3 x H4 ds[i] hd y;refine(hg cl C fp s2 H2 _ hm σb F4 H4 x (up _ _ _ Sb) rp).imp λσ5 H5 ⟨F5,S5,s5⟩ cl2 C2=> ?_
  have rl5:=rl.mono (s4.trans s5)
  have fin:∀ (b:Bool) (H6:Hp) (F6:Hp),b=p ds[i]->StF X.K H2 F6 H6 σ5 (Tb ds[i])->Same F5 F6->if b=true then(∀cl C,wE (cxB X N scope cl C fp s2 H2) elt σ5 H6 λv H5=>∃Fb',StF X.K H2 Fb' H5 σ5 (tF cap sd)/\RepL X.K Fb' (((ds.take (i+1)).filter p).map f) (ys++[v])) else ∃Fb',StF X.K H2 Fb' H6 σ5 (tF cap sd)/\RepL X.K Fb' (((ds.take (i+1)).filter p).map f) ys:=λb H6 F6 eb S6 s6=>by
   rw[tP p hd,<-eb];cases b with
   |false=>exact aKz ⟨F6,S6.le (hle _ hm),by simpa using rl5.mono s6⟩
   |true=>
    refine aKy λcl3 C3=>(he cl3 C3 fp s2 H2 _ hm eb.symm σ5 F6 H6 S6).imp λv H7 ⟨F7,S7,s7,q7⟩=>⟨F7,S7.le (hle _ hm), ?_⟩
    simp only[if_true,aP,aX,fU];exact((rl5.mono s6).mono s7).app (.one q7)
  rcases ht cl2 C2 fp s2 H2 _ hm with⟨e1,e2⟩|⟨c,e1,q⟩
  ·subst e1;exact aGw (fin true H5 F5 e2.symm S5 (Same.refl _))
  ·subst e1;exact aGg ((q σ5 F5 H5 S5).imp λb H6 ⟨eb,F6,S6,s6⟩=>fin b H6 F6 eb S6 s6)
 ·have e:i=ds.length:=by omega
  subst e;refine .inl ⟨g2 (aM _),λD C s' hD hC hDC h0 hL hcc hpp hst ⟨m',ns'⟩ J'=>⟨m',ns',λh' sb=> ?_⟩⟩;have J2:Inv X pins σ (upd H3 D (.lst ys)) {s' with heap:=h',toks:=s'.toks}:=J'.turned (it:=C) (λb o hb g=>sb.extBut b o hb g) (by rw[bO (Ne.symm hDC)];exact hC) hL (.inr h0) hcc hpp;refine⟨.ref D,_,J2,rfl,Fb,λb o g=>Sb.base _ _ (S1.sub _ _ (s1' _ _ g)),λb o g=> ?_,λb o g=> ?_,D,ys,rfl,Sb.sub.free hD,cD, ?_,by simp[cE]⟩
  ·have g3:=Sb.sub _ _ g;rw[bO (cH g3 hD)];exact g3
  ·by_cases hb:b=D
   ·subst hb;rw[cD] at g;cases g;trivial
   ·rw[bO hb] at g;exact Sb.smp _ _ g
  ·simpa using rl
end
noncomputable def isT:D->Bool
 |.tup _=>true
 |_=>false
noncomputable def isL:D->Bool
 |.lst _=>true
 |.scr _=>true
 |_=>false
theorem aEF(K:aA)(d:D):fQ K (tyD d) (.type "tuple")=some (isT d):=by cases d<;>with_unfolding_all rfl
theorem aGJ(K:aA)(d:D):fQ K (tyD d) (.type "list")=some (isL d):=by cases d<;>with_unfolding_all rfl
section
variable {X:Cx}{sd:List Slot}{e a b c:Expr}{es:List Expr}{pos:Pos}{r ra rb:R}{d:D}{ds:List D}{st:BU}{rest:List BU}{E:jR}
theorem PEd.cast{r':R}(h:PEd X sd e r)(q:r=r'):PEd X sd e r':=q▸h
theorem gH{k:Bool}{x o:List BU}(h:PTd X sd c k)(hk:k=false)(h2:PSd X sd o E):PSd1 X sd (.If c x o pos) E:=gF h (λe=>by rw[hk] at e;cases e) λ_=>h2
theorem iV{k:Bool}{x o:List BU}(h:PTd X sd c k)(hk:k=true)(h2:PSd X sd x E):PSd1 X sd (.If c x o pos) E:=gF h (λ_=>h2) λe=>by rw[hk] at e;cases e
theorem oD{i:Int}(ha:PEd X sd a (.bor ds))(hb:PEd X sd b (.val (.int i)))(h0:0<=i)(hd:ds[i.toNat]? =some d)(hs:lZ b):PEd X sd (.Subscript a b pos) (.val d):=by
 have e:i=(i.toNat:Int):=by omega
 rw[e] at hb;exact nY ha hb hd hs
theorem mD{i:Int}(ha:PEd X sd a (.val (.tup ds)))(hb:PEd X sd b (.val (.int i)))(h0:0<=i)(hd:ds[i.toNat]? =some d)(hs:lZ b):PEd X sd (.Subscript a b pos) (.val d):=by
 have e:i=(i.toNat:Int):=by omega
 rw[e] at hb;exact dD ha hb hd hs
end
theorem vQ{i:Int}(h:i.natAbs<2^250):Builtin.Int.intBits i<=2^20:=by
 unfold Builtin.Int.intBits
 split
 ·exact bS _
 ·rename_i hz
  have hne:i.natAbs≠0:=by
   intro z;apply hz;have:i=0:=by omega
   subst this;rfl
  have:=(Nat.log2_lt hne).mpr h;have e:(250:Nat)+1<=2^20:=by decide
  omega
theorem iP{i j:Int}(h1:i.natAbs<2^250)(h2:j.natAbs<2^250):IntMulOk i j:=.of_bits (vQ h1) (vQ h2)
noncomputable def most:Int:=1000*10^64
noncomputable def bX:List (Int×Int):=[(2,2),(1,1),(1,2),(2,1),(1,3),(3,1),(2,3),(3,2),(1,4),(4,1),(1,5),(5,1),(1,6),(6,1)]
noncomputable def cS(p:Int×Int):D:=.tup [.int p.1,.int p.2]
theorem aBA{ns:List Int}{k:Nat}{d:D}(h:(ns.map D.int)[k]? =some d):k<ns.length/\d=.int (ns.getD k 0):=by
 rw[bF] at h;cases e:ns[k]? with
 |none=>rw[e] at h;cases h
 |some z=>rw[e] at h;refine⟨(aN.mp e).1, ?_⟩;rw[<-cC.inj h,bR,e];rfl
theorem getD_mem{α:Type}{l:List α}{i:Nat}{d:α}(h:i<l.length):l.getD i d∈l:=by
 have e:l.getD i d=l[i]:=by simp[bR,h]
 rw[e];exact gY h
theorem aGy{H:Hp}(h:aNx H):Smp H:=λb o e=>by
 rcases h b with z|⟨o',xs,z⟩
 ·rw[z] at e;cases e
 ·rw[z] at e;cases e;trivial
mutual
noncomputable def deq:D->D->Bool
 |.non,.non=>true
 |.bl a,.bl b=>a==b
 |.bl a,.int b=>(if a then 1 else 0)==b
 |.int a,.bl b=>a==(if b then 1 else 0)
 |.int a,.int b=>a==b
 |.str a,.str b=>a==b
 |.tup a,.tup b=>mO a b
 |.lst a,.lst b=>mO a b
 |_,_=>false
noncomputable def mO:List D->List D->Bool
 |[],[]=>true
 |x::xs,y::ys=>deq x y&&mO xs ys
 |_,_=>false
end
mutual
noncomputable def pl:D->Bool
 |.dic=>false
 |.dki _ _=>false
 |.any _=>false
 |.scr _=>false
 |.tup ds=>plL ds
 |.lst ds=>plL ds
 |_=>true
noncomputable def plL:List D->Bool
 |[]=>true
 |d::ds=>pl d&&plL ds
end
mutual
noncomputable def dep:D->Nat
 |.tup ds=>jK ds+1
 |.lst ds=>jK ds+1
 |_=>0
noncomputable def jK:List D->Nat
 |[]=>0
 |d::ds=>max (dep d) (jK ds)
end
theorem zW:∀ {ds:List D}{i:Nat}{d:D},plL ds=true->ds[i]? =some d->pl d=true
 |[],i,d,_,e=>by simp at e
 |d'::ds,i,d,h,e=>by
  simp only[plL,bM] at h;cases i with
  |zero=>simp at e;subst e;exact h.1
  |succ i=>exact zW h.2 (by simpa using e)
theorem xF:∀ {ds:List D}{i:Nat}{d:D},ds[i]? =some d->dep d<=jK ds
 |[],i,d,e=>by simp at e
 |d'::ds,i,d,e=>by
  simp only[jK];cases i with
  |zero=>simp at e;subst e;exact Nat.le_max_left _ _
  |succ i=>exact cO (xF (i:=i) (by simpa using e)) (Nat.le_max_right _ _)
theorem deqL_iff:∀ {xs ys:List D},mO xs ys=true↔xs.length=ys.length/\∀ (j:Nat) (x y:D),xs[j]? =some x->ys[j]? =some y->deq x y=true
 |[],[]=>by simp[mO]
 |[],y::ys=>by simp[mO]
 |x::xs,[]=>by simp[mO]
 |x::xs,y::ys=>by
  simp only[mO,bM,bU,deqL_iff (xs:=xs) (ys:=ys)]
  constructor
  ·rintro⟨h1,h2,h3⟩;refine⟨by omega,λj a b ea eb=> ?_⟩;cases j with
   |zero=>simp at ea eb;subst ea eb;exact h1
   |succ j=>exact h3 j a b (by simpa using ea) (by simpa using eb)
  ·rintro⟨h1,h2⟩;exact⟨h2 0 x y rfl rfl,by omega,λj a b ea eb=>h2 (j+1) a b (by simpa using ea) (by simpa using eb)⟩
mutual
theorem vO{K:aA}{H:Hp}:∀ {d1 d2:D}{v:V},pl d1=true->Rep K H d1 v->Rep K H d2 v->pl d2=true->deq d1 d2=true
 |.non,d2,v,_,r1,r2,_=>by simp only[Rep] at r1;subst r1;cases d2<;>simp_all[Rep,deq]
 |.bl b,d2,v,_,r1,r2,_=>by simp only[Rep] at r1;subst r1;cases d2<;>simp_all[Rep,deq]
 |.int b,d2,v,_,r1,r2,_=>by simp only[Rep] at r1;subst r1;cases d2<;>simp_all[Rep,deq]
 |.str b,d2,v,_,r1,r2,_=>by simp only[Rep] at r1;subst r1;cases d2<;>simp_all[Rep,deq]
 |.dic,_,_,h,_,_,_=>by simp[pl] at h
 |.dki _ _,_,_,h,_,_,_=>by simp[pl] at h
 |.any _,_,_,h,_,_,_=>by simp[pl] at h
 |.scr _,_,_,h,_,_,_=>by simp[pl] at h
 |.tup ds,d2,v,p1,r1,r2,p2=>by
  simp only[Rep] at r1;obtain⟨a,xs,rfl,ha,rl⟩:=r1;cases d2 with
  |tup es=>simp only[Rep] at r2;obtain⟨a',xs',e,ha',rl'⟩:=r2;cases e;rw[ha] at ha';cases ha';simp only[deq];exact sW (by simpa[pl] using p1) rl rl' (by simpa[pl] using p2)
  |lst es=>simp only[Rep] at r2;obtain⟨a',xs',e,ha',rl'⟩:=r2;cases e;rw[ha] at ha';cases ha'
  |dic=>simp[pl] at p2
  |dki=>simp[pl] at p2
  |any=>simp[pl] at p2
  |scr=>simp[pl] at p2
  |_=>simp[Rep] at r2
 |.lst ds,d2,v,p1,r1,r2,p2=>by
  simp only[Rep] at r1;obtain⟨a,xs,rfl,ha,rl⟩:=r1;cases d2 with
  |lst es=>simp only[Rep] at r2;obtain⟨a',xs',e,ha',rl'⟩:=r2;cases e;rw[ha] at ha';cases ha';simp only[deq];exact sW (by simpa[pl] using p1) rl rl' (by simpa[pl] using p2)
  |tup es=>simp only[Rep] at r2;obtain⟨a',xs',e,ha',rl'⟩:=r2;cases e;rw[ha] at ha';cases ha'
  |dic=>simp[pl] at p2
  |dki=>simp[pl] at p2
  |any=>simp[pl] at p2
  |scr=>simp[pl] at p2
  |_=>simp[Rep] at r2
theorem sW{K:aA}{H:Hp}:∀ {ds es:List D}{xs:List V},plL ds=true->RepL K H ds xs->RepL K H es xs->plL es=true->mO ds es=true
 |[],es,xs,_,r1,r2,_=>by
  simp only[RepL] at r1;subst r1;cases es with
  |nil=>rfl
  |cons e es=>obtain⟨y,ys,z,_⟩:=r2.uncons;cases z
 |d::ds,es,xs,p1,r1,r2,p2=>by
  obtain⟨y,ys,rfl,a,rl⟩:=r1.uncons;cases es with
  |nil=>simp only[RepL] at r2;cases r2
  |cons e es=>obtain⟨y',ys',z,a',rl'⟩:=r2.uncons;cases z;simp only[plL,bM] at p1 p2;simp only[mO,bM];exact⟨vO p1.1 a a' p2.1,sW p1.2 rl rl' p2.2⟩
end
noncomputable def sI:D->Bool
 |.non=>true
 |.bl _=>true
 |.int _=>true
 |.str _=>true
 |_=>false
theorem uO{K:aA}{H:Hp}{d:D}{v:V}(h:sI d=true)(r:Rep K H d v):oH v=true/\flt d=some v:=by cases d<;>simp_all[sI,Rep,oH,flt]
section
variable {P:AG}{w:AL}{K:aA}{H:Hp}{s:BP}
theorem iS(hok:HOk P w H s.heap){ds:List D}{v:V}{u:BO}(r:Rep K H (.tup ds) v)(ru:RelV v u):∃a xs its,u=.ref a/\v=.ref a/\RepL K H ds xs/\Vals xs its/\s.heap.IsTuple a its.toArray:=by simp only[Rep] at r;obtain⟨a,xs,rfl,ha,rl⟩:=r;cases ru;obtain⟨_,its,rv,p⟩:=(show ObjOk P w H s.heap a (.tup xs) from hok a _ ha);exact⟨a,xs,its,rfl,rfl,rl,rv,p.tup⟩
theorem lB(hok:HOk P w H s.heap){ds:List D}{v:V}{u:BO}(r:Rep K H (.lst ds) v)(ru:RelV v u):∃a xs its,u=.ref a/\v=.ref a/\RepL K H ds xs/\Vals xs its/\s.heap.IsList a its.toArray:=by simp only[Rep] at r;obtain⟨a,xs,rfl,ha,rl⟩:=r;cases ru;obtain⟨_,its,n,rv,p⟩:=(show ObjOk P w H s.heap a (.lst xs) from hok a _ ha);exact⟨a,xs,its,rfl,rfl,rl,rv,_,p,rfl,n,rfl⟩
noncomputable def dAt(ds es:List D)(j:Nat):Bool:=match ds[j]?,es[j]? with
 |some x,some y=>deq x y
 |_,_=>false
theorem sA(ds es:List D):((bK (min ds.length es.length)).all (dAt ds es)&&ds.length==es.length)=mO ds es:=by
 rw[kA,deqL_iff,bM,gX,beq_iff_eq]
 constructor
 ·rintro⟨h1,h2⟩;refine⟨h2,λj x y ex ey=> ?_⟩;have hj:j<ds.length:=(aN.mp ex).1;have:=h1 j (bP.mpr (by omega));unfold dAt at this;rw[ex,ey] at this;exact this
 ·rintro⟨h1,h2⟩;refine⟨λj hj=> ?_,h1⟩;have hj':=bP.mp hj;have e1:ds[j]? =some (ds[j]'(by omega)):=by simp
  have e2:es[j]? =some (es[j]'(by omega)):=by simp
  unfold dAt;rw[e1,e2];exact h2 j _ _ e1 e2
theorem tE{ds es:List D}(h:ds.length=es.length):(bK ds.length).all (dAt ds es)=mO ds es:=by have:=sA ds es;rw[h] at this ⊢;simpa using this
theorem vC{ds es:List D}(h:ds.length≠es.length):mO ds es=false:=by
 cases e:mO ds es with
 |false=>rfl
 |true=>exact absurd (deqL_iff.mp e).1 h
mutual
theorem aAV(hok:HOk P w H s.heap):∀ (d1:D) {d2:D}{v1 v2:V}{u1 u2:BO}{A:BR},pl d1=true->pl d2=true->Rep K H d1 v1->Rep K H d2 v2->RelV v1 u1->RelV v2 u2->A.units+dep d1<AQ->SeqAt.EqAt A s u1 u2 (deq d1 d2)
 |.tup ds,d2,v1,v2,u1,u2,A,p1,p2,r1,r2,ru1,ru2,hu=>by
  have hu':A.units<AQ:=by omega
  obtain⟨a,xs,its,rfl,rfl,rl,rv,ht⟩:=iS hok r1 ru1;cases d2 with
  |non=>simp only[Rep] at r2;subst r2;cases ru2;exact SeqAt.EqAt.tuple_none ht hu'
  |bl b=>simp only[Rep] at r2;subst r2;cases ru2;exact SeqAt.EqAt.tuple_bool b ht hu'
  |int b=>simp only[Rep] at r2;subst r2;obtain⟨t,rfl⟩:=ru2;exact SeqAt.EqAt.tuple_int b t ht hu'
  |str b=>simp only[Rep] at r2;subst r2;obtain⟨t,rfl⟩:=ru2;exact SeqAt.EqAt.tuple_str b t ht hu'
  |dic=>simp[pl] at p2
  |dki=>simp[pl] at p2
  |any=>simp[pl] at p2
  |scr=>simp[pl] at p2
  |lst es=>obtain⟨b,ys,jts,rfl,rfl,rl2,rv2,hl2⟩:=lB hok r2 ru2;exact SeqAt.EqAt.tuple_list ht hl2 hu'
  |tup es=>
   obtain⟨b,ys,jts,rfl,e2,rl2,rv2,ht2⟩:=iS hok r2 ru2
   by_cases hab:a=b
   ·subst hab;have:=vO p1 r1 (e2▸r2) p2;rw[this];exact SeqAt.EqAt.same _
   ·simp only[deq];rw[<-sA];have l1:its.toArray.size=ds.length:=by rw[aW,<-rv.length,rl.len]
    have l2:jts.toArray.size=es.length:=by rw[aW,<-rv2.length,rl2.len]
    rw[<-l1,<-l2];simp only[pl] at p1 p2;simp only[dep] at hu;refine .of_refs hab (.tuples ht ht2 hu' λj h1 h2=> ?_);exact qH hok ds p1 p2 rl rl2 rv rv2 (A:=A.in1) (by show A.units+1+_<AQ;omega) (by simp) (by simp)
 |.lst ds,d2,v1,v2,u1,u2,A,p1,p2,r1,r2,ru1,ru2,hu=>by
  have hu':A.units<AQ:=by omega
  obtain⟨a,xs,its,rfl,rfl,rl,rv,ht⟩:=lB hok r1 ru1;cases d2 with
  |non=>simp only[Rep] at r2;subst r2;cases ru2;exact SeqAt.EqAt.list_none ht hu'
  |bl b=>simp only[Rep] at r2;subst r2;cases ru2;exact SeqAt.EqAt.list_bool b ht hu'
  |int b=>simp only[Rep] at r2;subst r2;obtain⟨t,rfl⟩:=ru2;exact SeqAt.EqAt.list_int b t ht hu'
  |str b=>simp only[Rep] at r2;subst r2;obtain⟨t,rfl⟩:=ru2;exact SeqAt.EqAt.list_str b t ht hu'
  |dic=>simp[pl] at p2
  |dki=>simp[pl] at p2
  |any=>simp[pl] at p2
  |scr=>simp[pl] at p2
  |tup es=>obtain⟨b,ys,jts,rfl,rfl,rl2,rv2,hl2⟩:=iS hok r2 ru2;exact SeqAt.EqAt.list_tuple ht hl2 hu'
  |lst es=>
   obtain⟨b,ys,jts,rfl,e2,rl2,rv2,ht2⟩:=lB hok r2 ru2
   by_cases hab:a=b
   ·subst hab;have:=vO p1 r1 (e2▸r2) p2;rw[this];exact SeqAt.EqAt.same _
   ·simp only[deq];have l1:its.toArray.size=ds.length:=by rw[aW,<-rv.length,rl.len]
    have l2:jts.toArray.size=es.length:=by rw[aW,<-rv2.length,rl2.len]
    simp only[pl] at p1 p2;simp only[dep] at hu
    by_cases hl:ds.length=es.length
    ·rw[<-tE hl,<-l1];refine .of_refs hab (.lists ht ht2 (by rw[l1,l2,hl]) hu' λj h1 h2=> ?_);exact qH hok ds p1 p2 rl rl2 rv rv2 (A:=A.in1) (by show A.units+1+_<AQ;omega) (by simp) (by simp)
    ·rw[vC hl];exact .of_refs hab (.lists_lengths ht ht2 (by rw[l1,l2];simpa using hl) hu')
 |.dic,_,_,_,_,_,_,p1,_,_,_,_,_,_=>by simp[pl] at p1
 |.dki _ _,_,_,_,_,_,_,p1,_,_,_,_,_,_=>by simp[pl] at p1
 |.any _,_,_,_,_,_,_,p1,_,_,_,_,_,_=>by simp[pl] at p1
 |.scr _,_,_,_,_,_,_,p1,_,_,_,_,_,_=>by simp[pl] at p1
 |.non,d2,v1,v2,u1,u2,A,p1,p2,r1,r2,ru1,ru2,hu=>by
  have hu':A.units<AQ:=by omega
  simp only[Rep] at r1;subst r1;cases hf:sI d2 with
  |true=>obtain⟨h1,h2⟩:=uO hf r2;have:=vV (A:=A) (s:=s) ru1 ru2 rfl h1;cases d2<;>simp_all[sI,flt,Rep,deq,eqV]
  |false=>
   cases ru1;cases d2 with
   |tup es=>obtain⟨b,ys,jts,rfl,e2,rl2,rv2,ht2⟩:=iS hok r2 ru2;exact SeqAt.EqAt.none_tuple ht2 hu'
   |lst es=>obtain⟨b,ys,jts,rfl,e2,rl2,rv2,ht2⟩:=lB hok r2 ru2;exact SeqAt.EqAt.none_list ht2 hu'
   |dic=>simp[pl] at p2
   |dki=>simp[pl] at p2
   |any=>simp[pl] at p2
   |scr=>simp[pl] at p2
   |_=>simp[sI] at hf
 |.bl q,d2,v1,v2,u1,u2,A,p1,p2,r1,r2,ru1,ru2,hu=>by
  have hu':A.units<AQ:=by omega
  simp only[Rep] at r1;subst r1;cases hf:sI d2 with
  |true=>obtain⟨h1,h2⟩:=uO hf r2;have:=vV (A:=A) (s:=s) ru1 ru2 rfl h1;cases d2<;>simp_all[sI,flt,Rep,deq,eqV]
  |false=>
   cases ru1;cases d2 with
   |tup es=>obtain⟨b,ys,jts,rfl,e2,rl2,rv2,ht2⟩:=iS hok r2 ru2;exact SeqAt.EqAt.bool_tuple q ht2 hu'
   |lst es=>obtain⟨b,ys,jts,rfl,e2,rl2,rv2,ht2⟩:=lB hok r2 ru2;exact SeqAt.EqAt.bool_list q ht2 hu'
   |dic=>simp[pl] at p2
   |dki=>simp[pl] at p2
   |any=>simp[pl] at p2
   |scr=>simp[pl] at p2
   |_=>simp[sI] at hf
 |.int q,d2,v1,v2,u1,u2,A,p1,p2,r1,r2,ru1,ru2,hu=>by
  have hu':A.units<AQ:=by omega
  simp only[Rep] at r1;subst r1;cases hf:sI d2 with
  |true=>obtain⟨h1,h2⟩:=uO hf r2;have:=vV (A:=A) (s:=s) ru1 ru2 rfl h1;cases d2<;>simp_all[sI,flt,Rep,deq,eqV]
  |false=>
   obtain⟨t,rfl⟩:=ru1;cases d2 with
   |tup es=>obtain⟨b,ys,jts,rfl,e2,rl2,rv2,ht2⟩:=iS hok r2 ru2;exact SeqAt.EqAt.int_tuple q t ht2 hu'
   |lst es=>obtain⟨b,ys,jts,rfl,e2,rl2,rv2,ht2⟩:=lB hok r2 ru2;exact SeqAt.EqAt.int_list q t ht2 hu'
   |dic=>simp[pl] at p2
   |dki=>simp[pl] at p2
   |any=>simp[pl] at p2
   |scr=>simp[pl] at p2
   |_=>simp[sI] at hf
 |.str q,d2,v1,v2,u1,u2,A,p1,p2,r1,r2,ru1,ru2,hu=>by
  have hu':A.units<AQ:=by omega
  simp only[Rep] at r1;subst r1;cases hf:sI d2 with
  |true=>obtain⟨h1,h2⟩:=uO hf r2;have:=vV (A:=A) (s:=s) ru1 ru2 rfl h1;cases d2<;>simp_all[sI,flt,Rep,deq,eqV]
  |false=>
   obtain⟨t,rfl⟩:=ru1;cases d2 with
   |tup es=>obtain⟨b,ys,jts,rfl,e2,rl2,rv2,ht2⟩:=iS hok r2 ru2;exact SeqAt.EqAt.str_tuple q t ht2 hu'
   |lst es=>obtain⟨b,ys,jts,rfl,e2,rl2,rv2,ht2⟩:=lB hok r2 ru2;exact SeqAt.EqAt.str_list q t ht2 hu'
   |dic=>simp[pl] at p2
   |dki=>simp[pl] at p2
   |any=>simp[pl] at p2
   |scr=>simp[pl] at p2
   |_=>simp[sI] at hf
theorem qH(hok:HOk P w H s.heap):∀ (ds:List D) {es:List D}{xs ys:List V}{its jts:List BO}{j:Nat}{x y:BO}{A:BR},plL ds=true->plL es=true->RepL K H ds xs->RepL K H es ys->Vals xs its->Vals ys jts->A.units+jK ds<AQ->its[j]? =some x->jts[j]? =some y->SeqAt.EqAt A s x y (dAt ds es j)
 |[],es,xs,ys,its,jts,j,x,y,A,_,_,r1,_,v1,_,_,e1,_=>by simp only[RepL] at r1;subst r1;cases v1;simp at e1
 |d::ds,es,xs,ys,its,jts,j,x,y,A,p1,p2,r1,r2,v1,v2,hu,e1,e2=>by
  obtain⟨a,as,rfl,ra,rl⟩:=r1.uncons;cases v1 with
  |cons va vas=>
   cases es with
   |nil=>simp only[RepL] at r2;subst r2;cases v2;simp at e2
   |cons e es=>
    obtain⟨b,bs,rfl,rb,rl2⟩:=r2.uncons;cases v2 with
    |cons vb vbs=>
     simp only[plL,bM] at p1 p2;simp only[jK] at hu;cases j with
     |zero=>simp at e1 e2;subst e1 e2;exact aAV hok d p1.1 p2.1 ra rb va vb (by omega)
     |succ j=>exact qH hok ds p1.2 p2.2 rl rl2 vas vbs (by omega) (by simpa using e1) (by simpa using e2)
end
end
section
variable {X:Cx}{sd:List Slot}{e a b c:Expr}{es:List Expr}{pos:Pos}{r ra rb:R}{d:D}{ds:List D}{st:BU}{rest:List BU}{E:jR}
theorem rc_D{pins:List (BQ×BZ)}{σ:St}{H:Hp}{s:BP}{K:aA}{d1 d2:D}{v u:V}{x y:BO}{Q:BO->BP->Prop}(I:Inv X pins σ H s)(hs:(isT d1=true/\isT d2=true)\/(isL d1=true/\isL d2=true))(p1:pl d1=true)(p2:pl d2=true)(r1:Rep K H d1 v)(r2:Rep K H d2 u)(rx:RelV v x)(ry:RelV u y)
  (hu:X.A.units+dep d1+1<AQ) (q:Q (.bool (deq d1 d2)) s):AH (AE X.prog X.w) X.A (AZ .Eq x y) Q X.xe s:=by
 have hu':X.A.units<AQ:=by omega
 rcases hs with⟨t1,t2⟩|⟨t1,t2⟩
 ·cases d1<;>first|(simp[isT] at t1;done)|skip
  cases d2<;>first|(simp[isT] at t2;done)|skip
  rename_i ds es;obtain⟨a,xs,its,rfl,rfl,rl,rv,ht⟩:=iS I.hok r1 rx;obtain⟨b,ys,jts,rfl,rfl,rl2,rv2,ht2⟩:=iS I.hok r2 ry;have l1:its.toArray.size=ds.length:=by rw[aW,<-rv.length,rl.len]
  have l2:jts.toArray.size=es.length:=by rw[aW,<-rv2.length,rl2.len]
  simp only[pl] at p1 p2;simp only[dep] at hu;simp only[deq] at q;rw[<-sA,<-l1,<-l2] at q;exact SeqAt.eq_tupleAt ht ht2 hu' (λj h1 h2=>qH I.hok ds p1 p2 rl rl2 rv rv2 (A:=X.A.in1) (by show X.A.units+1+_<AQ;omega) (by simp) (by simp)) q
 ·cases d1<;>first|(simp[isL] at t1;done)|(simp[pl] at p1;done)|skip
  cases d2<;>first|(simp[isL] at t2;done)|(simp[pl] at p2;done)|skip
  rename_i ds es;obtain⟨a,xs,its,rfl,rfl,rl,rv,ht⟩:=lB I.hok r1 rx;obtain⟨b,ys,jts,rfl,rfl,rl2,rv2,ht2⟩:=lB I.hok r2 ry;have l1:its.toArray.size=ds.length:=by rw[aW,<-rv.length,rl.len]
  have l2:jts.toArray.size=es.length:=by rw[aW,<-rv2.length,rl2.len]
  simp only[pl] at p1 p2;simp only[dep] at hu;simp only[deq] at q
  by_cases hl:ds.length=es.length
  ·rw[<-tE hl,<-l1] at q;exact SeqAt.eq_listAt ht ht2 (by rw[l1,l2,hl]) hu' (λj h1 h2=>qH I.hok ds p1 p2 rl rl2 rv rv2 (A:=X.A.in1) (by show X.A.units+1+_<AQ;omega) (by simp) (by simp)) q
  ·rw[vC hl] at q;exact SeqAt.eq_list_lengthsAt ht ht2 (by rw[l1,l2];simpa using hl) hu' q
theorem aOp{pins:List (BQ×BZ)}{σ:St}{H:Hp}{s:BP}{K:aA}{d1 d2:D}{v u:V}{x y:BO}{Q:BO->BP->Prop}(I:Inv X pins σ H s)(hs:(isT d1=true/\isT d2=true)\/(isL d1=true/\isL d2=true))(p1:pl d1=true)(p2:pl d2=true)(r1:Rep K H d1 v)(r2:Rep K H d2 u)(rx:RelV v x)(ry:RelV u y)
  (hu:X.A.units+dep d1+1<AQ) (q:Q (.bool (!deq d1 d2)) s):AH (AE X.prog X.w) X.A (AZ .NotEq x y) Q X.xe s:=by
 have hu':X.A.units<AQ:=by omega
 rcases hs with⟨t1,t2⟩|⟨t1,t2⟩
 ·cases d1<;>first|(simp[isT] at t1;done)|skip
  cases d2<;>first|(simp[isT] at t2;done)|skip
  rename_i ds es;obtain⟨a,xs,its,rfl,rfl,rl,rv,ht⟩:=iS I.hok r1 rx;obtain⟨b,ys,jts,rfl,rfl,rl2,rv2,ht2⟩:=iS I.hok r2 ry;have l1:its.toArray.size=ds.length:=by rw[aW,<-rv.length,rl.len]
  have l2:jts.toArray.size=es.length:=by rw[aW,<-rv2.length,rl2.len]
  simp only[pl] at p1 p2;simp only[dep] at hu;simp only[deq] at q;rw[<-sA,<-l1,<-l2] at q;exact SeqAt.RcNeAt.tuples ht ht2 hu' (λj h1 h2=>qH I.hok ds p1 p2 rl rl2 rv rv2 (A:=X.A.in1) (by show X.A.units+1+_<AQ;omega) (by simp) (by simp)) _ _ _ _ q
 ·cases d1<;>first|(simp[isL] at t1;done)|(simp[pl] at p1;done)|skip
  cases d2<;>first|(simp[isL] at t2;done)|(simp[pl] at p2;done)|skip
  rename_i ds es;obtain⟨a,xs,its,rfl,rfl,rl,rv,ht⟩:=lB I.hok r1 rx;obtain⟨b,ys,jts,rfl,rfl,rl2,rv2,ht2⟩:=lB I.hok r2 ry;have l1:its.toArray.size=ds.length:=by rw[aW,<-rv.length,rl.len]
  have l2:jts.toArray.size=es.length:=by rw[aW,<-rv2.length,rl2.len]
  simp only[pl] at p1 p2;simp only[dep] at hu;simp only[deq] at q
  by_cases hl:ds.length=es.length
  ·rw[<-tE hl,<-l1] at q;exact SeqAt.RcNeAt.lists ht ht2 (by rw[l1,l2,hl]) hu' (λj h1 h2=>qH I.hok ds p1 p2 rl rl2 rv rv2 (A:=X.A.in1) (by show X.A.units+1+_<AQ;omega) (by simp) (by simp)) _ _ _ _ q
  ·rw[vC hl] at q;exact SeqAt.RcNeAt.lists_lengths ht ht2 (by rw[l1,l2];simpa using hl) hu' _ _ _ _ q
theorem ResOk.rep{K:aA}{H₀ F H:Hp}{σ:St}{v:V}(S:StF K H₀ F H σ sd)(hk:r.keeps)(q:ResOk K F H sd r v):Rep K H r.toD v:=by
 cases r with
 |val d=>exact Rep.mono S.sub q
 |own ds=>exact hk.elim
 |pr d ls=>exact hk.elim
 |ox G=>exact hk.elim
 |bor ds=>obtain⟨l,xs,e,hl,rl,_⟩:=q;simp only[R.toD,Rep];exact⟨l,xs,e,hl,rl.mono S.sub⟩
theorem aLU(K:aA)(d1 d2:D)(hs:(isT d1=true/\isT d2=true)\/(isL d1=true/\isL d2=true))(p1:pl d1=true)(p2:pl d2=true)(hu:X.A.units+dep d1+1<AQ):OpR X (AZ .Eq) (λx y H Q=>Rep K H d1 x/\Rep K H d2 y/\Q (.bl (deq d1 d2)) H):=by intro pins s σ H x y v u Q I rx ry h;obtain⟨h1,h2,q⟩:=h;exact rc_D I hs p1 p2 h1 h2 rx ry hu ⟨.bl (deq d1 d2),H,I,rfl,q⟩
theorem aMl(K:aA)(d1 d2:D)(hs:(isT d1=true/\isT d2=true)\/(isL d1=true/\isL d2=true))(p1:pl d1=true)(p2:pl d2=true)(hu:X.A.units+dep d1+1<AQ):OpR X (AZ .NotEq) (λx y H Q=>Rep K H d1 x/\Rep K H d2 y/\Q (.bl (!deq d1 d2)) H):=by intro pins s σ H x y v u Q I rx ry h;obtain⟨h1,h2,q⟩:=h;exact aOp I hs p1 p2 h1 h2 rx ry hu ⟨.bl (!deq d1 d2),H,I,rfl,q⟩
theorem aHo(ha:PEd X sd a ra)(hb:PEd X sd b rb)(ka:ra.keeps)(kb:rb.keeps)(hs:(isT ra.toD=true/\isT rb.toD=true)\/(isL ra.toD=true/\isL rb.toD=true))(p1:pl ra.toD=true)(p2:pl rb.toD=true)(hu:X.A.units+dep ra.toD+1<AQ):PEd X sd (.Compare a [.Eq] [b] pos) (.val (.bl (deq ra.toD rb.toD))):=
 zY (aLU X.K _ _ hs p1 p2 hu) ha hb ka (jC _) λσ F H v u Q S q1 q2 k=>⟨q1.rep S ka,q2.rep S kb,k F H S (Same.refl _)⟩
theorem aCU(ha:PEd X sd a ra)(hb:PEd X sd b rb)(ka:ra.keeps)(kb:rb.keeps)(hs:(isT ra.toD=true/\isT rb.toD=true)\/(isL ra.toD=true/\isL rb.toD=true))(p1:pl ra.toD=true)(p2:pl rb.toD=true)(hu:X.A.units+dep ra.toD+1<AQ):PTd X sd (.Compare a [.NotEq] [b] pos) (!deq ra.toD rb.toD):=
 nK (aMl X.K _ _ hs p1 p2 hu) ha hb ka (jC _) λσ F H v u Q S q1 q2 k=>⟨q1.rep S ka,q2.rep S kb,k F H S (Same.refl _)⟩
noncomputable def aLZ(K:aA):R2:=λx y H Q=>∃a b ys,x=.ref a/\y=.ref b/\SqT K H a []/\SqT K H b ys/\Q (.ref b) H
theorem op_catT0:OpR X (Al .Add) (aLZ X.K):=by
 intro pins s σ H x y v u Q I rx ry h;obtain⟨a,b,ys,rfl,rfl,ha,hb,q⟩:=h;cases rx;cases ry;obtain⟨its,r1,p1,_⟩:=I.tuple ha;obtain⟨its2,r2,p2,_⟩:=I.tuple hb;cases r1;obtain⟨⟨cls,dd,data,sl⟩,ho,hc,n,hd⟩:=id p1;obtain⟨⟨cls2,dd2,data2,sl2⟩,ho2,hc2,n2,hd2⟩:=id p2;simp only at hc hd hc2 hd2;subst hc hd hc2 hd2
 exact concat_meets ⟨_,ho,rfl⟩ ⟨_,ho2,rfl⟩ noFill_tuple_add seq_tuple_add oF nQ (mV _ _)
  (tuple_addW0 a b ([]:List BO).toArray its2.toArray n n2 dd dd2 sl sl2 (by simp)) ⟨ho,ho2,⟨.ref b,H,I,rfl,q⟩⟩
theorem mE{d1 d2:List D}(ha:PEd X sd a (.val (.tup d1)))(hb:PEd X sd b (.val (.tup d2)))(hl:d1.length+d2.length<=1000):PEd X sd (.BinOp a .Add b pos) (.val (.tup (d1++d2))):=
 aCE (op_catT0.or aJP) ha hb trivial λσ F H v u Q S q1 q2 k=>by
  simp only[ResOk,Rep] at q1 q2;obtain⟨p,xs,e1,hp,rl⟩:=q1;obtain⟨q,ys,e2,hq,rl2⟩:=q2;cases d1 with
  |nil=>simp only[RepL] at rl;subst rl;refine .inl ⟨p,q,ys,e1,e2,.of (S.sub _ _ hp),.of (S.sub _ _ hq),k _ F H S (Same.refl _) ?_⟩;simp only[ResOk,Rep,xN];exact⟨q,ys,rfl,hq,rl2⟩
  |cons z zs=>
   refine .inr ⟨p,q,xs,ys,e1,e2,.of (S.sub _ _ hp),.of (S.sub _ _ hq), ?_,by rw[rl.len,rl2.len];exact cW (fX hl),λhy=> ?_,λhy p2 hp2=> ?_⟩
   ·intro hx;subst hx;obtain⟨_,_,w,_⟩:=rl.uncons;cases w
   ·subst hy
    have:d2=[]:=by
     cases d2 with
     |nil=>rfl
     |cons w ws=>obtain⟨_,_,w,_⟩:=rl2.uncons;cases w
    subst this;refine k _ F H S (Same.refl _) ?_;simp only[ResOk,Rep,dM];exact⟨p,xs,rfl,hp,rl⟩
   ·obtain⟨S2,s2⟩:=S.lay (o:=.tup (xs++ys)) hp2 trivial;refine k _ _ _ S2 s2 ?_;simp only[ResOk,Rep];exact⟨p2,_,rfl,cD,(rl.app rl2).mono s2⟩
theorem nC{p:Pos}(hg:Gl X "tuple")(hm:X.mg "tuple"=none)(ha:PEd X sd e (.bor ds))(hst:AD [e] X.env=(false,eval e X.env)::AD [] X.env:=by rfl):PEd X sd (.Call (.Name "tuple" p) [e] [] pos) (.val (.tup ds)):=
 tI (he:=hst) xX hg hm PyProof.Rows.boot_tuple (aE ha aU trivial hst) λσ F H vs Q S q k=>by
  cases q with
  |cons q1 q2=>cases q2;obtain⟨p,xs,rfl,hp,rl,_⟩:=q1;refine⟨p,xs,rfl,.inl ⟨.of hp,λl hl=> ?_⟩⟩;obtain⟨S2,s2⟩:=S.lay (o:=.tup xs) hl trivial;refine k _ _ _ S2 s2 ?_;simp only[ResOk,Rep];exact⟨l,xs,rfl,cD,rl.mono s2⟩
end
noncomputable def Ite(K:aA)(a:BQ):It:=
 ⟨λi H=>∃xs x,SqL K H a xs/\xs[i]? =some x,λi H x H'=>∃p v,x=.ref p/\H p=none/\H'=upd H p (.tup [.int i,v])/\∀xs,SqL K H a xs->xs[i]? =some v,λi H=>∃xs,SqL K H a xs/\xs.length<=i⟩
theorem aJG{X:Cx}{pins:List (BQ×BZ)}{σ:St}{H:Hp}{s:BP}{h':BS}{t':Nat}{e it:BQ}(I:Inv X pins σ H s)(k:∀b o,b≠e->b≠it->s.heap.get? b=some o->h'.get? b=some o)(f1:uA X pins H e)(f2:uA X pins H it):Inv X pins σ H {s with heap:=h',toks:=t'}:=by
 have nit:∀b u,H b=some u->b≠e/\b≠it:=λb u q=>⟨λz=>(by rw[z,f1.1] at q;cases q),λz=>(by rw[z,f2.1] at q;cases q)⟩
 have ne:∀b,b∉[e,it]->b≠e/\b≠it:=λb hc=>⟨λz=>hc (by simp[z]),λz=>hc (by simp[z])⟩
 refine I.step (g':=s.gens) (d':=s.drawn) (ch:=[e,it]) (λb hb=> ?_) (λb o _ _ hc q _=>k b o (ne b hc).1 (ne b hc).2 q) (λb o _ _ hc q _=>⟨o.slots,k b o (ne b hc).1 (ne b hc).2 q⟩) (λ_ _ _ _ n=>n)
  (λb o hc q=>⟨o,k b o (ne b hc).1 (ne b hc).2 q⟩) (λ_ _ q=>q) (λ_ _ _ q=>q) (λb ps q=>⟨#[],by rw[q];simp⟩) (λm hm=> ?_) (λb u q=> ?_) I.bare
 ·rcases aQ.mp hb with z|hb
  ·subst z;exact⟨f1.2.2.2.1,f1.2.1,f1.2.2.2.2.1,f1.2.2.2.2.2⟩
  ·have z:b=it:=by simpa using hb
   subst z;exact⟨f2.2.2.2.1,f2.2.1,f2.2.2.2.2.1,f2.2.2.2.2.2⟩
 ·obtain⟨o,es,ep,ho,r⟩:=hm;exact⟨o,es,ep,k _ o (Ne.symm f1.2.1) (Ne.symm f2.2.1) ho,r⟩
 ·refine(I.hok b u q).stay (λc v hc g=> ?_) (λ_ g=>g) λ_ _ g=>g
  rcases hc with z|z
  ·rw[z] at g ⊢;exact k b v (nit b u q).1 (nit b u q).2 g
  ·exact k c v (nit c _ z).1 (nit c _ z).2 g
theorem aEd{P:AG}{w:AL}{K:aA}{elts:List Expr}{kk:Nat}{pos:Pos}(a e it:BQ)(hei:e≠it):aHc P w K (.Tuple elts kk pos) (Ite K a) [e,it] e (λi h=>(∃old,IsEnum h e it i old)/\h.IsListIter it a i) where
 mem:=by simp
 obj:=λi h st b hb=>by
  obtain⟨⟨old,he⟩,hit⟩:=st
  rcases aQ.mp hb with z|hb
  ·subst z;exact⟨_,he,λv z=>by cases z⟩
  ·have z:b=it:=by simpa using hb
   subst z;obtain⟨o,q,c,d⟩:=hit;exact⟨o,q,λv z=>by rw[d] at z;cases z⟩
 keep:=λi h h' st k=>by obtain⟨⟨old,he⟩,hit⟩:=st;exact⟨⟨old,k e (by simp) _ he⟩,hit.at λo q=>k it (by simp) o q⟩
 item:=by
  intro X hP hw hK hc i pins s σ H E I hf st hg;subst hP hw hK;obtain⟨⟨old,he⟩,hit⟩:=st;obtain⟨xs,x,hq,hx⟩:=hg;obtain⟨its,rv,p,hz⟩:=I.list hq;obtain⟨u,hu,ru⟩:=rv.get hx;have f1:=hf e (by simp);have f2:=hf it (by simp);refine wpAny_pyNext_enum_item he hit p.isList (x:=u) (by simpa using hu) hei λh1 heo hit1 ht1 hz1 hk1=> ?_
  refine⟨_,rfl,wpAny_letOwnedTupleGo_enum heo λh2 he2 hs2=> ?_⟩;have hs2:Heap.SameBut e h1 h2:=hs2;have esz:e<s.heap.objs.size:=aK he;have isz:it<s.heap.objs.size:=by obtain⟨_,q,_⟩:=hit;exact aK q
  have I1:Inv X pins σ H {s with heap:=h2,toks:=s.toks+1}:=aJG I (λb o h1' h2' q=>(hs2.2 b h1').trans (hk1 b o h1' h2' q)) f1 f2;have hn:H s.heap.objs.size=none:=I.hok.fresh (aM _);have g2:h2.get? s.heap.objs.size=some {cls:=.type "tuple",data:=.seq #[.int i s.toks,u]}:=(hs2.2 _ (gG esz)).trans ht1
  have I2:Inv X pins σ (upd H s.heap.objs.size (.tup [.int i,x])) {s with heap:=h2,toks:=s.toks+1}:=by
   refine I1.track hn I.sz (gG I.lt) (λy c q=> ?_) (λy hy=> ?_) ⟨by show 2<=AM;decide,[.int i s.toks,u],.cons ⟨_,rfl⟩ (.cons ru .nil),⟨_,g2,rfl,⟨_,rfl⟩,rfl⟩⟩
   ·obtain⟨v,o,ho,_⟩:=I.cell y c q;exact bH (aK ho)
   ·exact bH (aK (I.pin y hy).1)
  refine⟨.ref s.heap.objs.size,_,I2,rfl,⟨_,x,rfl,hn,rfl,λys hy=>by rw[I.list_inj hy hq];exact hx⟩,⟨⟨u, ?_⟩, ?_⟩,λb hb=> ?_⟩
  ·have:((i+1:Nat):Int)=(i:Int)+1:=by push_cast;rfl
   rw[this];exact he2
  ·exact hit1.at λo q=>(hs2.2 it (Ne.symm hei)).trans q
  ·rcases aQ.mp hb with z|hb
   ·subst z;rw[bO (bH esz)];exact f1.1
   ·have z:b=it:=by simpa using hb
    subst z;rw[bO (bH isz)];exact f2.1
 done:=by intro X hP hw hK hc i pins s σ H E I hf st hg;subst hP hw hK;obtain⟨⟨old,he⟩,hit⟩:=st;obtain⟨xs,hq,hx⟩:=hg;obtain⟨its,rv,p,hz⟩:=I.list hq;obtain⟨f0,f1,f2,f3,f4,f5⟩:=hf it (by simp);have hl:=rv.length;exact wpAny_pyNext_enum_end (I.ok.hd hc) he hit p.isList (by simp;omega) λh' eb=>⟨rfl,I.turned (t':=s.toks) (λb o hb q=>eb b o hb q) f0 f1 f3 f4 f5⟩
 self:=λ_ _ _ _ _ st h=>by obtain⟨⟨old,he⟩,_⟩:=st;exact wpAny_pyIter_enum he h
section
variable {X:Cx}{sd:List Slot}{e a b c tg iter:Expr}{es:List Expr}{pos:Pos}{r ra rb:R}{d:D}{ds:List D}{st:BU}{rest:List BU}{E:jR}
noncomputable def aNY(K:aA)(ta:TA):TI:=λσ H R=>ta σ H λvs H1=>∃l,vs=[.ref l]/\(∃xs,SqL K H1 l xs)/\R (Ite K l) H1
theorem aJv{elts:List Expr}{kk:Nat}{tp:Pos}{ta:TA}{p:Pos}(hg:Gl X "enumerate")(hm:X.mg "enumerate"=none)(ha:PA X [a] ta)(hs:AD [a] X.env=[(false,eval a X.env)]:=by rfl):PI X (.Tuple elts kk tp) (.Call (.Name "enumerate" p) [a] [] pos) (aNY X.K ta):=by
 intro pins s σ H R I h;refine Call_ (lU I hg hm boot_enumerate (PyProof.Rows.callWith_type1 (thn (ha pos pins s σ H _ I h) λus s1 ⟨vs,H1,I1,r1,q1⟩=> ?_) hs rfl));obtain⟨l,rfl,⟨xs,hq⟩,q⟩:=q1;cases r1 with
 |cons r rr=>
  cases rr;cases r;obtain⟨its,rv,p,hz⟩:=I1.list hq;refine call_enumerate_list p.isList λh' he hit hsz hk=> ?_
  refine wpAny_pyIter_enum he ?_;have I2:Inv X pins σ H1 {s1 with heap:=h'}:=I1.kept (t':=s1.toks) hk;refine⟨s1.heap.objs.size+1,[s1.heap.objs.size+1,s1.heap.objs.size],_,Ite X.K l,H1,rfl,I2,aEd l _ _ (Nat.succ_ne_self _),⟨⟨_,he⟩,hit⟩,λb hb=> ?_,q⟩
  rcases aQ.mp hb with z|hb
  ·subst z;exact I1.fpOk (kG _) (I1.hok.fresh (kG _))
  ·have z:b=s1.heap.objs.size:=by simpa using hb
   subst z;exact I1.fpOk (aM _) (I1.hok.fresh (aM _))
noncomputable def tS(ds:List D):List D:=(bK ds.length).map λ(i:Nat)=>D.tup [.int (i:Int),ds.getD i .non]
theorem pM(ds:List D):(tS ds).length=ds.length:=by simp[tS]
theorem sY{ds:List D}{i:Nat}{d:D}(h:(tS ds)[i]? =some d):∃x,ds[i]? =some x/\d=.tup [.int (i:Int),x]:=by
 unfold tS at h;rw[bF] at h
 by_cases hi:i<ds.length
 ·rw[qS hi] at h;refine⟨ds[i],by simp[hi], ?_⟩;rw[<-cC.inj h];simp[bR,hi]
 ·rw[dW (by simpa using hi)] at h;cases h
def LP(K:aA)(l:BQ)(ds:List D):Hp->Hp->Prop:=λF H=>∃xs,H l=some (.lst xs)/\RepL K F ds xs
theorem aGv{F₁:Hp}{l:BQ}:ItD X.K F₁ (LP X.K l ds) (Ite X.K l) (tS ds):=λF H _ sH sm hP i=>by
 obtain⟨xs,hl,rl⟩:=hP;refine⟨λhi=> ?_,λhi=> ?_,λx H' d hd y=> ?_⟩
 ·rw[pM] at hi;exact⟨xs,xs[i]'(by rw[rl.len];exact hi),.of hl,by simp[rl.len,hi]⟩
 ·rw[pM] at hi;exact⟨xs,.of hl,by rw[rl.len];exact hi⟩
 ·obtain⟨p,v,rfl,hp,rfl,hv⟩:=y;obtain⟨z,hz,rfl⟩:=sY hd;have hv:=hv xs (.of hl);obtain⟨v',h1,rz⟩:=rl.get hz;rw[hv] at h1;cases h1;have fp:F p=none:=sH.free hp;have s1:Same F (upd F p (.tup [.int i,v])):=λb u q=>by rw[bO (cH q fp)];exact q
  refine⟨upd F p (.tup [.int i,v]),s1, ?_,λH₀ σ sd S=>(S.lay (o:=.tup [.int i,v]) hp trivial).1⟩;simp only[Rep];exact⟨p,_,rfl,cD,.cons (by simp only[Rep]) (.one (rz.mono s1))⟩
theorem aBh{elts:List Expr}{kk:Nat}{tp p:Pos}(hg:Gl X "enumerate")(hm:X.mg "enumerate"=none)(ha:PEd X sd a (.val (.lst ds)))(hst:AD [a] X.env=[(false,eval a X.env)]:=by rfl):
  PId X sd PT0 (.Tuple elts kk tp) (.Call (.Name "enumerate" p) [a] [] pos) (tS ds):=.mk λσ F H S=>
 (aJv hg hm xZ hst).to ((aE ha aU trivial (by rw [hst]; rfl) σ F H S).imp fun vs H1 ⟨F1,S1,s1,q1⟩=>by
  cases q1 with
  |cons q1 q2=>
   cases q2;simp only[ResOk,Rep] at q1;obtain⟨l,xs,rfl,hl,rl⟩:=q1;refine⟨l,rfl,⟨xs,.of (S1.sub _ _ hl)⟩,F1,S1,s1,λF' H' sF sH sm _ i=> ?_⟩
   exact aGv (X:=X) (F₁:=F1) F' H' sF sH sm ⟨xs,sH _ _ (sF _ _ hl),rl.mono sF⟩ i)
theorem aJN{ns:List Int}{us:List BO}(r:Vals (ns.map V.int) us){i:Nat}{u:BO}(h:us[i]? =some u):i<ns.length/\∃t,u=.int (ns.getD i 0) t:=by
 have hl:=r.length;rw[aB] at hl;have hi:i<us.length:=(aN.mp h).1
 have e:(ns.map V.int)[i]? =some (.int (ns.getD i 0)):=by
  rw[bF];have:i<ns.length:=by omega
  simp[bR,this]
 obtain⟨u',h1,t,h2⟩:=r.get e;rw[h] at h1;cases h1;exact⟨by omega,t,h2⟩
noncomputable def cutD(ds:List D)(lo hi:Option Int):List D:=(ds.drop (HT.sIx ds.length 0 lo)).take (HT.sIx ds.length ds.length hi-HT.sIx ds.length 0 lo)
theorem RepL.cut{K:aA}{H:Hp}{xs:List V}(r:RepL K H ds xs)(lo hi:Option Int):RepL K H (cutD ds lo hi) (xR xs lo hi):=by unfold cutD xR;rw[r.len];exact(r.drop _).take _
def POd(X:Cx)(sd:List Slot)(e:Option Expr)(o:Option Int):Prop:=match e,o with
 |none,none=>True
 |some e,some i=>PEd X sd e (.val (.int i))
 |_,_=>False
theorem uJ{eo:Option Expr}{o:Option Int}(h:POd X sd eo o):∃t:TO,PO X eo t/\∀ (σ:St) (F H:Hp),StF X.K X.B₀ F H σ sd->∀Q:Option Int->Hp->Prop,(∀F' H',StF X.K X.B₀ F' H' σ sd->Same F F'->Q o H')->t σ H Q:=by
 cases eo with
 |none=>
  cases o with
  |none=>exact⟨_,aJF,λσ F H S Q k=>k F H S (Same.refl _)⟩
  |some i=>exact h.elim
 |some e=>
  cases o with
  |none=>exact h.elim
  |some i=>have h:PEd X sd e (.val (.int i)):=h;refine⟨_,aJY gR,λσ F H S Q k=>(h σ F H S).imp λv H1 ⟨F1,S1,s1,q1⟩=> ?_⟩;simp only[ResOk,Rep] at q1;exact⟨i,q1,k F1 H1 S1 s1⟩
theorem aAO{lo hi:Option Expr}{ol oh:Option Int}{p2:Pos}(ha:PEd X sd a (.val (.tup ds)))(hl:POd X sd lo ol)(hh:POd X sd hi oh)(hn:¬ (HT.sIx ds.length 0 ol=0/\HT.sIx ds.length ds.length oh=ds.length)):PEd X sd (.Subscript a (.Slice lo hi none p2) pos) (.val (.tup (cutD ds ol oh))):=.mk λσ F H S=>by obtain⟨tl,pl,kl⟩:=uJ hl;obtain⟨th,ph,kh⟩:=uJ hh;refine(aBk aMV gR pl ph).to ((ha σ F H S).imp λv H1 ⟨F1,S1,s1,q1⟩=>kl σ F1 H1 S1 _ λF2 H2 S2 s2=>kh σ F2 H2 S2 _ λF3 H3 S3 s3=> ?_);have q1:=Rep.mono (s2.trans s3) q1;simp only[Rep] at q1;obtain⟨l,xs,rfl,hl',rl⟩:=q1;refine⟨l,xs,rfl,.of (S3.sub _ _ hl'),by rw[rl.len];exact hn,λp hp=> ?_⟩;obtain⟨S4,s4⟩:=S3.lay (o:=.tup (xR xs ol oh)) hp trivial;refine⟨_,S4,((s1.trans s2).trans s3).trans s4, ?_⟩;simp only[ResOk,Rep];exact⟨p,_,rfl,cD,(rl.cut ol oh).mono s4⟩
theorem aLS{i:Int}(ha:PEd X sd a (.val (.int i))):PEd X sd (.UnaryOp .USub a pos) (.val (.int (-i))):=.mk λσ F H S=>
 (aKX aHQ gR).to ((ha σ F H S).imp fun v H1 ⟨F1,S1,s1,q1⟩=>by
  simp only[ResOk,Rep] at q1
  exact⟨i,q1,F1,S1,s1,by simp only[ResOk,Rep]⟩)
theorem hX{body:List BU}{P:Hp->Hp->Prop}(Sd:Nat->List Slot->Prop)(hi:PId X sd P tg iter ds)(h0:∃sd0,Le sd sd0/\Sd 0 sd0)
  (hb:∀k d sdk,ds[k]? =some d->Sd k sdk->∃sdt,PGd X sdk tg d sdt/\PSd X sdt body {E with nx:=λsd'=>∃sd2,Le sd' sd2/\Sd (k+1) sd2,ct:=λsd'=>∃sd2,Le sd' sd2/\Sd (k+1) sd2,bk:=E.nx}) (hE:∀sdn,Sd ds.length sdn->E.nx sdn) (hP:∀k sdk σ F H,Sd k sdk->StF X.K X.B₀ F H σ sdk->P F H:=by intros;trivial)
  (hc:X.calm=true:=by rfl) (hp:PassesOwn (AE X.prog X.w) X.A X.env X.xe:=by exact PassesOwn.never) (hs:∀x,foldedSetIterable iter X.env x=pure x:=by intro _;rfl):PSd1 X sd (.For tg iter body [] pos) E:=.mk λσ F H S=>
 (aHv hp hc aOU aNB rA hs).to (by
  intro pins s I;refine thn (hi σ F H S pins s I) λv s1 h1=>thn h1 λitv s2 h2=> ?_
  obtain⟨it,fp,tn,J,H2,e,I2,T,st2,f2,F1,S1,s1',itd⟩:=h2;refine⟨it,fp,tn,J,H2,e,I2,T,st2,f2, ?_⟩;obtain⟨sd0,le0,q0⟩:=h0;refine⟨λi m σ' H'=>m=ds.length-i/\i<=ds.length/\∃sdi F',StF X.K X.B₀ F' H' σ' sdi/\Same F1 F'/\Sd i sdi,⟨ds.length,by simp,bS _,sd0,F1,S1.le le0,Same.refl _,q0⟩, ?_⟩;rintro i m σ' H' ⟨rfl,hil,sdi,F',S',s',qi⟩;obtain⟨g1,g2,g3⟩:=itd F' H' s' S'.sub S'.smp (hP _ _ _ _ _ qi S') i
  by_cases hlt:i<ds.length
  ·refine .inr ⟨g1 hlt,λσ2 H2=>∃sd2 F2,StF X.K X.B₀ F2 H2 σ2 sd2/\Same F1 F2/\Sd (i+1) sd2,λσ2 H2 ⟨sd2,F2,S2,s2,q2⟩=>⟨ds.length-(i+1),by omega,rfl,hlt,sd2,F2,S2,s2,q2⟩,λx H2 y=> ?_⟩;have hd:ds[i]? =some ds[i]:=by simp[hlt]
   obtain⟨F2,s2,rp,up⟩:=g3 x H2 ds[i] hd y;obtain⟨sdt,hg,hbb⟩:=hb i _ sdi hd qi;refine(hg σ' F2 H2 x (up _ _ _ S') rp).imp λσ3 H3 ⟨F3,S3,s3⟩=> ?_
   have base:Same F1 F3:=(s'.trans s2).trans s3;refine(hbb σ3 F3 H3 S3).imp ?_ ?_ ?_ ?_
   ·rintro σ4 H4 ⟨sd4,F4,S4,s4,sd5,le,q5⟩;exact⟨sd5,F4,S4.le le,base.trans s4,q5⟩
   ·exact λv H4 q=>q
   ·rintro σ4 H4 ⟨sd4,F4,S4,s4,q⟩;exact⟨sd4,F4,S4,(s1'.trans base).trans s4,q⟩
   ·rintro σ4 H4 ⟨sd4,F4,S4,s4,sd5,le,q5⟩;exact⟨sd5,F4,S4.le le,base.trans s4,q5⟩
  ·have e:i=ds.length:=by omega
   subst e
   exact .inl ⟨g2 (aM _),sdi,F',S',s1'.trans s',hE sdi qi⟩)
end
noncomputable def iM(m:Nat):Nat->List (List Int)
 |0=>[[]]
 |k+1=>(iM m k).flatMap λs=>(bK m).map λ(w:Nat)=>s++[(w:Int)]
noncomputable def bG(s:List Int):D:=.tup (s.map D.int)
noncomputable def tZ(m:Int)(ws:List Int):Int:=ws.foldl (λn w=>n*m+w) 0
noncomputable def aNN(b k:Nat):Bool:=let L:=iM (2^b) k;L.length==2^(b*k)&&(bK L.length).all λi=>let f:=L.getD i [];f.length==k&&f.all (λw=>decide (0<=w)&&decide (w<2^b))&&decide (tZ (2^b) f=i)&&(i==0||HT.lexLt (L.getD (i-1) []) f)
theorem aLG:∀p∈bX,aNN p.1.toNat p.2.toNat=true:=by decide+kernel
theorem uB:∀p∈bX,1<=p.1/\p.1<=6/\1<=p.2/\p.2<=6/\p.1*p.2<=6:=by decide+kernel
theorem aDG{m:Nat}:∀ {k:Nat}{ws:List Int},ws.length=k->(∀w∈ws,0<=w/\w<m)->ws∈iM m k
 |0,ws,h,_=>by have:ws=[]:=List.length_eq_zero_iff.mp h;subst this;simp[iM]
 |k+1,ws,h,hw=>by
  have hne:ws≠[]:=by intro z;subst z;simp at h
  have e:ws=ws.dropLast++[ws.getLast hne]:=(lK hne).symm;have hl:=hw (ws.getLast hne) (List.getLast_mem hne);have ih:ws.dropLast∈iM m k:=aDG (by rw[List.length_dropLast,h];rfl) λw hm=>hw w (List.dropLast_subset _ hm)
  show ws∈(iM m k).flatMap λs=>(bK m).map λ(w:Nat)=>s++[(w:Int)]
  refine dO.mpr ⟨_,ih,aO.mpr ⟨(ws.getLast hne).toNat,bP.mpr (by omega), ?_⟩⟩;have:(((ws.getLast hne).toNat:Nat):Int)=ws.getLast hne:=by omega
  rw[this];exact e.symm
structure aLw(b k:Nat):Prop where
 len:(iM (2^b) k).length=2^(b*k)
 at_:∀i,i<2^(b*k)->((iM (2^b) k).getD i []).length=k/\(∀w∈(iM (2^b) k).getD i [],0<=w/\w<2^b)/\tZ (2^b) ((iM (2^b) k).getD i [])=i/\(i=0\/HT.lexLt ((iM (2^b) k).getD (i-1) []) ((iM (2^b) k).getD i [])=true)
theorem aHR{b k:Nat}(h:aNN b k=true):aLw b k:=by unfold aNN at h;simp only[bM,beq_iff_eq,gX,bP,decide_eq_true_eq,xP] at h;obtain⟨h1,h2⟩:=h;refine⟨h1,λi hi=> ?_⟩;obtain⟨⟨⟨a,b⟩,c⟩,d⟩:=h2 i (by omega);exact⟨a,b,c,d⟩
theorem aMh{b k:Nat}(h:aLw b k){ws:List Int}(hl:ws.length=k)(hw:∀w∈ws,0<=w/\w<((2^b:Nat):Int)):0<=tZ (2^b) ws/\(tZ (2^b) ws).toNat<2^(b*k)/\(iM (2^b) k).getD (tZ (2^b) ws).toNat []=ws:=by
 have hm:=aDG hl hw;obtain⟨i,hi,e⟩:=List.mem_iff_getElem.mp hm;have e':(iM (2^b) k).getD i []=ws:=by simp[bR,hi,e]
 rw[h.len] at hi;have hn:=(h.at_ i hi).2.2.1;rw[e'] at hn;rw[hn];refine⟨by omega,by simpa using hi, ?_⟩;simpa using e'
theorem aBw:∀ (ws vs:List Int),mO (ws.map D.int) (vs.map D.int)=decide (ws=vs)
 |[],[]=>by simp[mO]
 |[],_::_=>by simp[mO]
 |_::_,[]=>by simp[mO]
 |w::ws,v::vs=>by
  simp only[aX,mO,deq,aBw ws vs]
  by_cases h1:w=v<;>by_cases h2:ws=vs<;>simp[h1,h2]
theorem aBm(ws vs:List Int):deq (bG ws) (bG vs)=decide (ws=vs):=by unfold bG;simp only[deq,aBw]
theorem aBp:∀ws:List Int,plL (ws.map D.int)=true
 |[]=>rfl
 |w::ws=>by simp[plL,pl,aBp ws]
theorem yV:∀ws:List Int,jK (ws.map D.int)=0
 |[]=>rfl
 |w::ws=>by simp[jK,dep,yV ws]
theorem qV(ws:List Int):pl (bG ws)=true:=by simp[bG,pl,aBp]
theorem uY(ws:List Int):dep (bG ws)=1:=by simp[bG,dep,yV]
theorem oZ:∀L:List (List Int),plL (L.map bG)=true
 |[]=>rfl
 |w::ws=>by simp[plL,qV,oZ ws]
theorem nA:∀L:List (List Int),jK (L.map bG)<=1
 |[]=>by simp[jK]
 |w::ws=>by have:=nA ws;simp only[aX,jK,uY];omega
theorem aII{i j:Int}(h1: -(2^64)<j)(h2:j<2^64):IntMulOk i j:=.of_right (intBits_le_64 h1 h2)
theorem nH{L:List (List Int)}{k:Nat}{d:D}(h:(L.map bG)[k]? =some d):k<L.length/\d=bG (L.getD k []):=by
 rw[bF] at h;cases e:L[k]? with
 |none=>rw[e] at h;cases h
 |some z=>rw[e] at h;refine⟨(aN.mp e).1, ?_⟩;rw[<-cC.inj h,bR,e];rfl
section
variable {X:Cx}{sd:List Slot}{e a b c tg iter:Expr}{es:List Expr}{pos:Pos}{r ra rb:R}{d:D}{ds:List D}{st:BU}{rest:List BU}{E:jR}
theorem aDh{g:Str}{ad:BQ}{xs:List V}{v:V}{p:Pos}(hg:Gl X g)(hm:X.mg g=some (.ref ad))(hq:∀H,SqT X.K H ad xs)(ha:PEd X sd a (.val d))(hd:flt d=some v)(fv:oH v=true)(fx:xs.all oH=true)
  (hk:Ag .In (.Name g p)=false:=by with_unfolding_all rfl) (hdb:(g==("__debug__":Str))=false:=by decide):PTd X sd (.Compare a [.In] [.Name g p] pos) (inV v xs):=.mk λσ F H S=>
 (aAr aEt gR (aDF (v:= .ref ad) hg hm rfl hdb) hk).to ((ha σ F H S).imp fun x H1 ⟨F1,S1,s1,q1⟩=>by
  have e:=aAt hd q1;subst e
  exact⟨ad,xs,rfl,.inr (hq H1),fv,fx,_,rfl,rfl,F1,S1,s1⟩)
end
noncomputable def stepNames:List Str:=["and","or","xor","add","take","copy","put","not","up","down"]
noncomputable def nm(k:Nat):Str:=stepNames.getD k "down"
noncomputable def iY(k:Nat)(i j n:Int):D:=if k<6 then .tup [.str (nm k),.int i,.int j] else if k=6 then .tup [.str (nm k),.int i,.int n] else .tup [.str (nm k),.int i]
noncomputable def aLt(k:Nat)(m a:Int):Int:=match k with
 |7=>m-1-a
 |8=>a*2%m
 |_=>a / 2
noncomputable def aFs(k:Nat)(m a c:Int):Int:=match k with
 |0=>Builtin.bitAnd a c
 |1=>Builtin.bitOr a c
 |2=>Builtin.bitXor a c
 |3=>(a+c)%m
 |4=>(a-c)%m
 |_=>c
noncomputable def newW(k:Nat)(m a c n:Int):Int:=if k=6 then n else if 7<=k then aLt k m a else aFs k m a c
theorem aCI:∀k,k<10->decide (V.str (nm k)=V.str "and")=decide (k=0):=by decide+kernel
theorem aIH:∀k,k<10->decide (V.str (nm k)=V.str "or")=decide (k=1):=by decide+kernel
theorem aCz:∀k,k<10->decide (V.str (nm k)=V.str "xor")=decide (k=2):=by decide+kernel
theorem aCL:∀k,k<10->decide (V.str (nm k)=V.str "add")=decide (k=3):=by decide+kernel
theorem aAB:∀k,k<10->decide (V.str (nm k)=V.str "take")=decide (k=4):=by decide+kernel
theorem tO:∀k,k<10->decide (V.str (nm k)=V.str "put")=decide (k=6):=by decide+kernel
theorem zQ:∀k,k<10->decide (V.str (nm k)=V.str "not")=decide (k=7):=by decide+kernel
theorem aFD:∀k,k<10->decide (V.str (nm k)=V.str "up")=decide (k=8):=by decide+kernel
theorem aDU:∀k,k<10->inV (V.str (nm k)) [V.str "not",V.str "up",V.str "down"]=decide (7<=k):=by decide+kernel
theorem aGM:∀b,b<7->∀a,a<2^b->∀c,c<2^b->∀k,k<3->0<=aFs k 0 ((a:Nat):Int) ((c:Nat):Int)/\aFs k 0 ((a:Nat):Int) ((c:Nat):Int)<((2^b:Nat):Int):=by decide+kernel
theorem aOu{k:Nat}(h:k<3)(m a c:Int):aFs k m a c=aFs k 0 a c:=by
 match k,h with
 |0,_=>rfl
 |1,_=>rfl
 |2,_=>rfl
theorem aGj{b k:Nat}{a c n:Int}(hb:b<7)(hk:k<10)(ha:0<=a/\a<((2^b:Nat):Int))(hc:0<=c/\c<((2^b:Nat):Int))(hn:0<=n/\n<((2^b:Nat):Int)):0<=newW k ((2^b:Nat):Int) a c n/\newW k ((2^b:Nat):Int) a c n<((2^b:Nat):Int):=by
 have ea:a=((a.toNat:Nat):Int):=by omega
 have ec:c=((c.toNat:Nat):Int):=by omega
 have la:a.toNat<2^b:=by have:=ha.2;generalize 2^b=q at *;omega
 have lc:c.toNat<2^b:=by have:=hc.2;generalize 2^b=q at *;omega
 have tab:∀k,k<3->0<=aFs k ((2^b:Nat):Int) a c/\aFs k ((2^b:Nat):Int) a c<((2^b:Nat):Int):=λk hk=>by rw[aOu hk,ea,ec];exact aGM b hb _ la _ lc k hk
 have mpos:(0:Int)<((2^b:Nat):Int):=by omega
 match k,hk with
 |0,_=>exact tab 0 (by decide)
 |1,_=>exact tab 1 (by decide)
 |2,_=>exact tab 2 (by decide)
 |3,_=>exact⟨dP _ (kN mpos),cK _ mpos⟩
 |4,_=>exact⟨dP _ (kN mpos),cK _ mpos⟩
 |5,_=>exact hc
 |6,_=>exact hn
 |7,_=>show 0<=((2^b:Nat):Int)-1-a/\((2^b:Nat):Int)-1-a<((2^b:Nat):Int);generalize ((2^b:Nat):Int)=q at *;omega
 |8,_=>exact⟨dP _ (kN mpos),cK _ mpos⟩
 |9,_=>show 0<=a / 2/\a / 2<((2^b:Nat):Int);generalize ((2^b:Nat):Int)=q at *;omega
section
variable {X:Cx}{sd:List Slot}{e a b c tg iter:Expr}{es:List Expr}{pos:Pos}{d:D}
theorem aHl{i j:Int}(ha:PEd X sd a (.val (.int i)))(hb:PEd X sd b (.val (.int j))):PEd X sd (.Compare a [.Eq] [b] pos) (.val (.bl (decide (i=j)))):=
 zY aLl ha hb trivial (jC _) λσ F H v u Q S q1 q2 k=>by
  simp only[ResOk,Rep] at q1 q2;subst q1;subst q2;refine⟨rfl, ?_⟩;have e:decide (V.int i=V.int j)=decide (i=j):=by rw[aAw,aCt]
  rw[e];exact k F H S (Same.refl _)
end
section
variable {X:Cx}{sd:List Slot}{e a b c tg iter o:Expr}{es:List Expr}{pos:Pos}{r ra rb:R}{d:D}{ds:List D}{st:BU}{rest:List BU}{E:jR}
theorem PEd.ic{i j:Int}(h:PEd X sd e (.val (.int i)))(q:i=j):PEd X sd e (.val (.int j)):=q▸h
end
mutual
noncomputable def noL:D->Bool
 |.tup ds=>aIr ds
 |.lst _=>false
 |.scr _=>false
 |.dic=>false
 |.dki _ _=>false
 |.any _=>false
 |_=>true
noncomputable def aIr:List D->Bool
 |[]=>true
 |d::ds=>noL d&&aIr ds
end
noncomputable def del(F:Hp)(l:BQ):Hp:=λb=>if b=l then none else F b
theorem sN{F:Hp}{l b:BQ}(h:b≠l):del F l b=F b:=by unfold del;rw[if_neg h]
theorem aBg{F:Hp}{l:BQ}:del F l l=none:=by unfold del;rw[if_pos rfl]
mutual
theorem Rep.del{K:aA}{F:Hp}{l:BQ}{xs:List V}(hl:F l=some (.lst xs)):∀ {d:D}{v:V},noL d=true->Rep K F d v->Rep K (del F l) d v
 |.non,_,_,r=>by simpa only[Rep] using r
 |.bl _,_,_,r=>by simpa only[Rep] using r
 |.int _,_,_,r=>by simpa only[Rep] using r
 |.str _,_,_,r=>by simpa only[Rep] using r
 |.tup ds,v,h,r=>by
  simp only[Rep] at r ⊢;obtain⟨a,ys,e,q,rl⟩:=r
  have ne:a≠l:=λz=>by rw[z,hl] at q;cases q
  exact⟨a,ys,e,by rw[sN ne];exact q,RepL.del hl (by simpa only[noL] using h) rl⟩
 |.lst _,_,h,_=>by simp[noL] at h
 |.dic,_,h,_=>by simp[noL] at h
 |.dki _ _,_,h,_=>by simp[noL] at h
 |.any _,_,h,_=>by simp[noL] at h
 |.scr _,_,h,_=>by simp[noL] at h
theorem RepL.del{K:aA}{F:Hp}{l:BQ}{xs:List V}(hl:F l=some (.lst xs)):∀ {ds:List D}{ys:List V},aIr ds=true->RepL K F ds ys->RepL K (del F l) ds ys
 |[],_,_,r=>by simpa only[RepL] using r
 |d::ds,ys,h,r=>by simp only[aIr,bM] at h;obtain⟨y,zs,rfl,a,rl⟩:=r.uncons;exact .cons (Rep.del hl h.1 a) (RepL.del hl h.2 rl)
end
theorem aBo{K:aA}{F H:Hp}:∀ {sd:List Slot}{σ:St},σ.length=sd.length->(∀ (k:Nat) (z:Slot),sd[k]? =some z->∃o,σ[k]? =some o/\iT K F H z o)->SlotsOk K F H sd σ
 |[],[],_,_=>rfl
 |z::zs,o::r,hl,h=>by
  obtain⟨o',e,q⟩:=h 0 z rfl;have:o=o':=by simpa using e
  subst this
  exact ⟨o,r,rfl,q,aBo (by simpa using hl) fun k z hz=>by
   obtain⟨o',e,q⟩:=h (k+1) z (by simpa using hz)
   exact⟨o',by simpa using e,q⟩⟩
 |[],_::_,hl,_=>by simp at hl
 |_::_,[],hl,_=>by simp at hl
noncomputable def aOq:R->Bool
 |.val d=>noL d
 |.own ds=>aIr ds
 |.bor _=>false
 |.pr _ _=>false
 |.ox _=>false
noncomputable def okS:Slot->Bool
 |.own _ ds=>aIr ds
 |.od _ _ ds=>aIr ds
 |.ox _ _=>false
 |_=>true
def Oth(sd:List Slot)(i:Nat):Prop:=∀ (k:Nat) (z:Slot),k≠i->sd[k]? =some z->okS z=true
section
variable {K:aA}{H₀ F F' H H':Hp}{σ:St}{sd:List Slot}{i:Nat}{l:BQ}{ds:List D}{xs:List V}
theorem StF.lend(S:StF K H₀ F H σ sd)(hs:sd[i]? =some (.own l ds))(hx:H l=some (.lst xs)):StF K H₀ (upd F l (.lst xs)) H σ (sd.set i (.val (.lst ds))):=by obtain⟨o,h1,h2,n,ys,q,rl⟩:=S.slots.get hs;rw[hx] at q;cases q;have S0:=S.le (iF sd i);obtain⟨S1,s1⟩:=S0.freeze hx n (pP S.nd hs);have S2:=S1.set (d:=.lst ds) (v:=.ref l) i (by simp only[Rep];exact⟨l,xs,rfl,cD,rl.mono s1⟩);rw[kC,lQ (by rw[h1,h2])] at S2;exact S2
theorem StF.back(S:StF K H₀ F H σ sd)(hs:sd[i]? =some (.own l ds))(hx:H l=some (.lst xs))(ho:Oth sd i)(S':StF K H₀ F' H' σ (sd.set i (.val (.lst ds))))(s:Same (upd F l (.lst xs)) F'):StF K H₀ (del F' l) H' σ sd/\Same F (del F' l)/\F' l=some (.lst xs):=by
 obtain⟨o,h1,h2,n,ys,q,rl⟩:=S.slots.get hs;rw[hx] at q;cases q;have fl:F' l=some (.lst xs):=s _ _ cD
 have sF:Same F (del F' l):=λb u e=>by have ne:b≠l:=cH e n;rw[sN ne];exact s _ _ (by rw[bO ne];exact e)
 refine⟨⟨λb u e=>sF _ _ (S.base _ _ e),λb u e=> ?_,S'.smp, ?_,S.nd⟩,sF,fl⟩
 ·by_cases h:b=l
  ·subst h;rw[aBg] at e;cases e
  ·rw[sN h] at e;exact S'.sub _ _ e
 ·refine aBo S.slots.len λk z hz=> ?_
  by_cases hk:k=i
  ·subst hk;rw[hs] at hz;cases hz;exact⟨o,h1,h2,aBg,xs,S'.sub _ _ fl,rl.mono sF⟩
  ·obtain⟨o1,g1,g2⟩:=S.slots.get hz;obtain⟨o2,g3,g4⟩:=S'.slots.get (i:=k) (z:=z) (by rw[lE (Ne.symm hk)];exact hz);rw[g1] at g3;cases g3;refine⟨o1,g1, ?_⟩;cases z with
   |un=>trivial
   |val d=>obtain⟨v,e,r⟩:=g2;exact⟨v,e,r.mono sF⟩
   |gh d G=>obtain⟨v,e,r,g⟩:=g2;exact⟨v,e,r.mono sF,λF2 s2=>g F2 (sF.trans s2)⟩
   |own l' ds'=>
    obtain⟨e,n',ys,q',rl'⟩:=g4
    have ne:l'≠l:=λe2=>by rw[e2,fl] at n';cases n'
    exact⟨e,by rw[sN ne];exact n',ys,q',RepL.del fl (ho k _ hk hz) rl'⟩
   |od l' ks ds'=>
    obtain⟨e,n',ys,q',ln,rl'⟩:=g4
    have ne:l'≠l:=λe2=>by rw[e2,fl] at n';cases n'
    exact⟨e,by rw[sN ne];exact n',ys,q',ln,RepL.del fl (ho k _ hk hz) rl'⟩
   |ox ls G=>exact absurd (ho k _ hk hz) (by simp[okS])
end
section
variable {X:Cx}{sd:List Slot}{e a b c tg iter o:Expr}{es:List Expr}{pos:Pos}{r ra rb:R}{d:D}{ds:List D}{st:BU}{rest:List BU}{E:jR}
theorem PEd.lend(i:Nat){l:BQ}(hs:sd[i]? =some (.own l ds))(ho:Oth sd i)(hf:aOq r=true)(h:PEd X (sd.set i (.val (.lst ds))) e r):PEd X sd e r:=.mk λσ F H S=>by
 obtain⟨o,h1,h2,n,xs,q,rl⟩:=S.slots.get hs;refine(h σ _ H (S.lend hs q)).imp λv H' ⟨F',S',s',res⟩=> ?_
 obtain⟨S2,s2,fl⟩:=S.back hs q ho S' s';refine⟨del F' l,S2,s2, ?_⟩;cases r with
 |val d=>exact Rep.del fl hf res
 |own ds'=>
  obtain⟨l',xs',e,n',q',rl',no⟩:=res
  have ne:l'≠l:=λe2=>by rw[e2,fl] at n';cases n'
  refine⟨l',xs',e,by rw[sN ne];exact n',q',RepL.del fl hf rl',λhm=>no ?_⟩;obtain⟨z,hz,ez⟩:=dO.mp hm;obtain⟨k,hk⟩:=iC hz
  have ki:k≠i:=λy=>by subst y;rw[hs] at hk;cases hk;have:l=l':=(aJ.mp ez).symm;exact ne this.symm
  exact dO.mpr ⟨_,bD (by rw[lE (Ne.symm ki)];exact hk),ez⟩
 |bor _=>cases hf
 |pr _ _=>cases hf
 |ox _=>cases hf
theorem PTd.lend(i:Nat){l:BQ}{k:Bool}(hs:sd[i]? =some (.own l ds))(ho:Oth sd i)(h:PTd X (sd.set i (.val (.lst ds))) e k):PTd X sd e k:=.mk λσ F H S=>by
 obtain⟨o,h1,h2,n,xs,q,rl⟩:=S.slots.get hs;refine(h σ _ H (S.lend hs q)).imp λv H' ⟨e,F',S',s'⟩=> ?_
 obtain⟨S2,s2,fl⟩:=S.back hs q ho S' s';exact⟨e,del F' l,S2,s2⟩
theorem PTd.cast{k k':Bool}(h:PTd X sd e k)(q:k=k'):PTd X sd e k':=q▸h
noncomputable def aNK:List Slot->Nat->Bool
 |[],_=>true
 |_::zs,0=>zs.all okS
 |z::zs,i+1=>okS z&&aNK zs i
theorem aIF:∀ {sd:List Slot}{i:Nat},aNK sd i=true->Oth sd i
 |[],_,_,k,y,_,hz=>by simp at hz
 |z::zs,0,h,k,y,hk,hz=>by
  cases k with
  |zero=>exact absurd rfl hk
  |succ k=>exact gX.mp (show zs.all okS=true from h) _ (bD (by simpa using hz))
 |z::zs,i+1,h,k,y,hk,hz=>by
  have h':(okS z&&aNK zs i)=true:=h;rw[bM] at h';cases k with
  |zero=>
   have:z=y:=by simpa using hz
   subst this;exact h'.1
  |succ k=>exact aIF h'.2 k y (λq=>hk (by rw[q])) (by simpa using hz)
theorem aGr(i j:Nat){x y:Str}{p q:Pos}{l:BQ}(hs:sd[j]? =some (.own l ds))(hN:X.N.Nodup)(hi:X.N[i]? =some x)(hx:Loc X.env.scope x)(hy:PE X (.Name y q) (lH j))(hE:E.nx ((sd.set j .un).set i (.own l ds)))(hsw:Ak (.Name y q) (some (.Name x p)) pos.line X.env=pure false:=by rfl)
  (hf:X.fn x=true\/X.env.scope.names.lookup x=some .local:=by first|exact .inl rfl|exact .inr rfl|assumption):PSd1 X sd (.Assign [.Name x p] (.Name y q) pos) E:=.mk λσ F H S=>
 (qR hN hi hx hy hsw hf).to (by
  obtain⟨o,h1,h2,n,xs,g,rl⟩:=S.slots.get hs
  exact⟨.ref l,by rw[h1,h2],_,F,(S.le (iF sd j)).setO i n g rl (pP S.nd hs),Same.refl _,hE⟩)
theorem aEm:mH X (.type "int") (λxs H Q=>∃k,xs=[.bl k]/\Q (.int (if k then 1 else 0)) H):=by intro pins s σ H xs us Q I r h;obtain⟨k,rfl,q⟩:=h;obtain⟨u,rfl,ru⟩:=pA r;cases(show u=Value.bool k from ru);exact call_int_bool ⟨.int _,H,I.kept λb o g=>g,⟨_,rfl⟩,q⟩
theorem aKm{p:Pos}{k:Bool}(hg:Gl X "int")(hm:X.mg "int"=none)(ha:PEd X sd e (.val (.bl k)))(hst:AD [e] X.env=(false,eval e X.env)::AD [] X.env:=by rfl):PEd X sd (.Call (.Name "int" p) [e] [] pos) (.val (.int (if k then 1 else 0))):=
 tI (he:=hst) aEm hg hm PyProof.Rows.boot_int (aE ha aU trivial hst) λσ F H vs Q S q kk=>by
  cases q with
  |cons q1 q2=>cases q2;simp only[ResOk,Rep] at q1;subst q1;exact⟨k,rfl,kk _ F H S (Same.refl _) (by simp only[ResOk,Rep])⟩
theorem aMb{ns:List Int}{lo hi:Option Expr}{ol oh:Option Int}{p2:Pos}(ha:PEd X sd a (.val (.scr ns)))(hl:POd X sd lo ol)(hh:POd X sd hi oh):PEd X sd (.Subscript a (.Slice lo hi none p2) pos) (.own (DL.cutD (ns.map D.int) ol oh)):=.mk λσ F H S=>by
 obtain⟨tl,pl,kl⟩:=uJ hl;obtain⟨th,ph,kh⟩:=uJ hh;refine(aBk aKt gR pl ph).to ((ha σ F H S).imp λv H1 ⟨F1,S1,s1,q1⟩=>kl σ F1 H1 S1 _ λF2 H2 S2 s2=>kh σ F2 H2 S2 _ λF3 H3 S3 s3=> ?_);have q1:=Rep.mono (s2.trans (s3.trans S3.sub)) q1;simp only[Rep] at q1;obtain⟨l,rfl,hl'⟩:=q1;refine⟨l,_,rfl,hl',λp hp=> ?_⟩;obtain⟨S4,fp,no⟩:=S3.layO (xs:=xR (ns.map V.int) ol oh) hp
 have rl:RepL X.K F3 (ns.map D.int) (ns.map V.int):=by
  have g:∀l:List Int,RepL X.K F3 (l.map D.int) (l.map V.int):=λl=>by
   induction l with
   |nil=>exact .nil
   |cons k l ih=>exact .cons (by simp only[Rep]) ih
  exact g ns
 exact⟨F3,S4,(s1.trans s2).trans s3,p,_,rfl,fp,cD,rl.cut ol oh,no⟩
theorem aEb(hc:X.calm=true):mH X (.builtin "sum") (λxs H Q=>∃ (a:BQ) (ns:List Int),xs=[.ref a]/\SqL X.K H a (ns.map V.int)/\Q (.int (preSum (λi=>ns.getD i 0) ns.length)) H):=by
 intro pins s σ H xs us Q I r h;obtain⟨a,ns,rfl,ha,q⟩:=h;obtain⟨u,rfl,ru⟩:=pA r;cases ru;obtain⟨its,rv,p,hz⟩:=I.list ha;have hl:=rv.length;rw[aB] at hl;have isl:s.heap.IsList a its.toArray:=p.isList;have alt:a<s.heap.objs.size:=by obtain⟨o,ho,_⟩:=isl;exact aK ho
 refine call_sum_walkAnyS (BG isl ?_);refine⟨s.heap.objs.size,_,_,_,its.toArray.size,_,_,λi=>ns.getD i 0,rfl,(Walks.list (A:=X.A.in1) (I.ok.hd hc) s.heap.objs.size a (bH alt) its.toArray).toS,⟨⟨_,aZ _ rfl,rfl,rfl⟩,isl.push _⟩,λb hb=> ?_,λi v hv=>(aJN rv (by simpa using hv)).2,λs' t' hm=> ?_⟩
 ·show b<(s.heap.push _).objs.size;rw[size_push']
  rcases aQ.mp hb with e|hb
  ·rw[e];exact jO _
  ·have e:b=a:=by simpa using hb
   rw[e];exact nT alt
 ·rw[Moved.eq_with hm];have sz:its.toArray.size=ns.length:=by rw[aW,hl]
  rw[sz];refine⟨.int _,H,I.kept λb o g=>hm.heap b o (λhI=> ?_) (aD _ g),⟨_,rfl⟩,q⟩;have e:b=s.heap.objs.size:=by simpa using hI
  exact absurd (aK g) (by rw[e];exact eA _)
theorem aJd{p:Pos}{ns:List Int}(hg:Gl X "sum")(hm:X.mg "sum"=none)(ha:PEd X sd e (.bor (ns.map D.int)))(hc:X.calm=true:=by rfl)(hst:AD [e] X.env=(false,eval e X.env)::AD [] X.env:=by rfl):PEd X sd (.Call (.Name "sum" p) [e] [] pos) (.val (.int (preSum (λi=>ns.getD i 0) ns.length))):=
 oV (he:=hst) (aEb hc) hg hm boot_sum (aE ha aU trivial hst) λσ F H vs Q S q k=>by
  cases q with
  |cons q1 q2=>cases q2;obtain⟨p,xs,rfl,hp,rl,_⟩:=q1;exact⟨p,ns,rfl,.of (by rw[<-rl.ints];exact hp),k _ F H S (Same.refl _) (by simp only[ResOk,Rep])⟩
end
def aFy:List D->R->Prop:=λds r=>∃ (ns:List Int) (k:Nat),ds=[.scr ns,.int (k:Int)]/\k<=1000/\r=.val (.int (ns.getD k 0))
noncomputable abbrev SQ:=Nat×Int×Int×Int
noncomputable def sqD(q:SQ):D:=iY q.1 q.2.1 q.2.2.1 q.2.2.2
structure qK(p:Int×Int)(q:SQ):Prop where
 sz:p∈bX
 k10:q.1<10
 i0:0<=q.2.1/\q.2.1<p.2
 j0:0<=q.2.2.1/\q.2.2.1<p.2
 n0:0<=q.2.2.2/\q.2.2.2<((2^p.1.toNat:Nat):Int)
theorem pw0(n:Nat):(0:Int)<((2^n:Nat):Int):=by have:0<2^n:=Nat.pow_pos (by decide);generalize 2^n=q at this ⊢;omega
noncomputable abbrev SK:=SQ×Int
noncomputable def skD(s:SK):D:=.tup [sqD s.1,.int s.2]
structure StkOk(p:Int×Int)(L:List SK):Prop where
 pos:0<L.length
 le:L.length<=8
 st:∀s∈L,qK p s.1/\1<=s.2/\s.2<=9
structure Fil(p:Int×Int)(ws:List Int):Prop where
 len:ws.length=p.2.toNat
 wd:∀w∈ws,0<=w/\w<((2^p.1.toNat:Nat):Int)
noncomputable def nwQ(p:Int×Int)(q:SQ)(ws:List Int):Int:=newW q.1 ((2^p.1.toNat:Nat):Int) (ws.getD q.2.1.toNat 0) (ws.getD q.2.2.1.toNat 0) q.2.2.2
noncomputable def onQ(p:Int×Int)(q:SQ)(ws:List Int):List Int:=ws.set q.2.1.toNat (nwQ p q ws)
noncomputable def aNA(p:Int×Int)(L:List SK)(row:List Nat)(ws:List Int):List Int:=row.foldl (λf t=>onQ p (L.getD t AR).1 f) ws
theorem aKc{p:Int×Int}{q:SQ}{ws:List Int}(O:qK p q)(G:Fil p ws):0<=nwQ p q ws/\nwQ p q ws<((2^p.1.toNat:Nat):Int):=by obtain⟨h1,h2,h3,h4,h5⟩:=uB p O.sz;exact aGj (by omega) O.k10 (G.wd _ (getD_mem (by have:=O.i0;rw[G.len];omega))) (G.wd _ (getD_mem (by have:=O.j0;rw[G.len];omega))) O.n0
theorem aAq{p:Int×Int}{q:SQ}{ws:List Int}(O:qK p q)(G:Fil p ws):Fil p (onQ p q ws):=by
 refine⟨by unfold onQ;rw[List.length_set];exact G.len,λw hw=> ?_⟩
 rcases List.mem_or_eq_of_mem_set hw with hw|rfl
 ·exact G.wd w hw
 ·exact aKc O G
theorem kP{p:Int×Int}(hp:p∈bX){ws:List Int}(h:ws∈iM (2^p.1.toNat) p.2.toNat):Fil p ws:=by
 have g:∀ (m k:Nat),∀s∈iM m k,s.length=k/\∀x∈s,0<=x/\x<(m:Int):=λm k=>by
  induction k with
  |zero=>
   intro s h;have:s=[]:=by simpa[iM] using h
   subst this;exact⟨rfl,λx hx=>by cases hx⟩
  |succ k ih=>
   intro s h;obtain⟨t,ht,hs⟩:=dO.mp h;obtain⟨w,hw,rfl⟩:=aO.mp hs;obtain⟨a,b⟩:=ih t ht;refine⟨by rw[bB,a];rfl,λx hx=> ?_⟩
   rcases bC.mp hx with hx|hx
   ·exact b x hx
   ·have e:x=(w:Int):=by simpa using hx
    have:=bP.mp hw;omega
 obtain⟨a,b⟩:=g _ _ ws h;exact⟨a,b⟩
noncomputable def bY(row:List Nat):List D:=row.map λ(t:Nat)=>D.int (t:Int)
noncomputable def aKA(L:List SK)(row:List Nat):List Int:=row.map λt=>(L.getD t AR).2
noncomputable def aKB(l:List Int):Int:=preSum (λi=>l.getD i 0) l.length
theorem vR{f g:Nat->Int}:∀n,(∀i,i<n->f i=g i)->preSum f n=preSum g n
 |0,_=>rfl
 |n+1,h=>by show preSum f n+f n=preSum g n+g n;rw[vR n λi hi=>h i (by omega),h n (by omega)]
theorem aEn(l:List Int)(x:Int):aKB (l++[x])=aKB l+x:=by unfold aKB;rw[bB];show preSum _ l.length+_=_;rw[vR (g:=λi=>l.getD i 0) l.length λi hi=>by simp[bR,gA hi]];simp[bR]
section
variable {X:Cx}{sd:List Slot}{e a b c tg iter o:Expr}{es:List Expr}{pos:Pos}{r ra rb:R}{d:D}{ds:List D}{st:BU}{rest:List BU}{E:jR}
theorem aBd{p:Pos}(hg:Gl X "list")(hm:X.mg "list"=none)(ha:PEd X sd e (.bor ds))(hst:AD [e] X.env=(false,eval e X.env)::AD [] X.env:=by rfl):PEd X sd (.Call (.Name "list" p) [e] [] pos) (.own ds):=
 tI (he:=hst) aAg hg hm PyProof.Rows.boot_list (aE ha aU trivial hst) λσ F H vs Q S q k=>by
  cases q with
  |cons q1 q2=>cases q2;obtain⟨p,xs,rfl,hp,rl,_⟩:=q1;refine⟨p,xs,rfl,.inl (.of hp),λl hl=> ?_⟩;obtain⟨S2,fp,no⟩:=S.layO (xs:=xs) hl;exact k _ F _ S2 (Same.refl _) ⟨l,xs,rfl,fp,cD,rl,no⟩
end
mutual
theorem nI:∀d:D,pl d=true->deq d d=true
 |.non,_=>rfl
 |.bl b,_=>by simp[deq]
 |.int i,_=>by simp[deq]
 |.str x,_=>by simp[deq]
 |.tup ds,h=>by simp only[deq];exact tG ds (by simpa only[pl] using h)
 |.lst ds,h=>by simp only[deq];exact tG ds (by simpa only[pl] using h)
 |.dic,h=>by simp[pl] at h
 |.dki _ _,h=>by simp[pl] at h
 |.any _,h=>by simp[pl] at h
 |.scr _,h=>by simp[pl] at h
theorem tG:∀ds:List D,plL ds=true->mO ds ds=true
 |[],_=>rfl
 |d::ds,h=>by simp only[plL,bM] at h;simp only[mO,bM];exact⟨nI d h.1,tG ds h.2⟩
end
theorem aMr{L:List SK}{t:Nat}(h:t<L.length):(L.map skD)[t]? =some (skD (L.getD t AR)):=by rw[bF];simp[bR,h]
def ItAt(tp:Bool)(h:BS)(it src:BQ)(i:Nat):Prop:=match tp with
 |true=>h.IsTupleIter it src i
 |false=>h.IsListIter it src i
def SqAt(tp:Bool)(h:BS)(src:BQ)(xs:Array BO):Prop:=match tp with
 |true=>h.IsTuple src xs
 |false=>h.IsList src xs
theorem ItAt.ex{tp:Bool}{h:BS}{it src:BQ}{i:Nat}(x:ItAt tp h it src i):∃o,h.get? it=some o/\∀v,o.data≠ .cell v:=by
 cases tp with
 |true=>obtain⟨o,e,_,d⟩:=(show h.IsTupleIter it src i from x);exact⟨o,e,λv z=>by rw[d] at z;cases z⟩
 |false=>obtain⟨o,e,_,d⟩:=(show h.IsListIter it src i from x);exact⟨o,e,λv z=>by rw[d] at z;cases z⟩
theorem ItAt.keep{tp:Bool}{h h':BS}{it src:BQ}{i:Nat}(x:ItAt tp h it src i)(k:∀o,h.get? it=some o->h'.get? it=some o):ItAt tp h' it src i:=by
 cases tp with
 |true=>exact Heap.IsTupleIter.at (show h.IsTupleIter it src i from x) k
 |false=>exact Heap.IsListIter.at (show h.IsListIter it src i from x) k
theorem SqAt.keep{tp:Bool}{h h':BS}{src:BQ}{xs:Array BO}(x:SqAt tp h src xs)(k:∀o,h.get? src=some o->h'.get? src=some o):SqAt tp h' src xs:=by
 cases tp with
 |true=>exact Heap.IsTuple.at (show h.IsTuple src xs from x) k
 |false=>exact Heap.IsList.at (show h.IsList src xs from x) k
theorem SqAt.lt{tp:Bool}{h:BS}{src:BQ}{xs:Array BO}(x:SqAt tp h src xs):src<h.objs.size:=by
 cases tp with
 |true=>obtain⟨o,e,_⟩:=(show h.IsTuple src xs from x);exact aK e
 |false=>obtain⟨o,e,_⟩:=(show h.IsList src xs from x);exact aK e
section
variable {prog:AG}{w:AL}{A:BR}{E:BO->BP->Prop}{s:BP}
theorem aGR{it t:BQ}{i:Nat}{items:Array BO}{x:BO}{Q:BO->BP->Prop}(hit:s.heap.IsTupleIter it t i)(hl:s.heap.IsTuple t items)(hx:items[i]? =some x)(hQ:∀h',h'.IsTupleIter it t (i+1)->Heap.SameBut it s.heap h'->Q x {s with heap:=h'}):AH (AE prog w) A (Builtin.SmallTypes.nextOf (.ref it)) Q E s:=by unfold Builtin.SmallTypes.nextOf;obtain⟨o,ho,hc,hd⟩:=id hit;obtain⟨ol,hol,_,nl,hdl⟩:=hl;refine AA (AS (name:=Str.ofString "__next__") hit.typeIs F.slot_tuple_iterator_next (AT F.slot_tuple_iterator_next hit.typeIs F.entry_tuple_iterator_next ?_ (F.args_tuple_iterator_next_1 _)));show AH _ _ (field (.ref it) 0>>=λl=>if(l==Value.none)=true then _ else field (.ref it) 1>>=_) _ _ s;refine AA (Ad ho hd (x:=.ref t) rfl ?_);rw[if_neg (by exact bN)];refine AA (Ad ho hd (x:=.int i 0) rfl (show AH _ _ (seqItems? (.ref t)>>=_) _ _ s from AA (AX hol hdl ?_)));simp only[dE,hx];refine AA (Ay ho hd (by simp) (AB ⟨x,rfl,AB (hQ _ ⟨_,dX _ ho (Obj.isFreed_of_fields (Obj.data_mapFields hd _)),(Obj.cls_mapFields ..).trans hc, ?_⟩ (Heap.SameBut.update ..))⟩));rw[Obj.data_mapFields hd];simp[Ax]
theorem aIL{it t:BQ}{i:Nat}{items:Array BO}{Q:BO->BP->Prop}(hh:A.handled=none)(hit:s.heap.IsTupleIter it t i)(hl:s.heap.IsTuple t items)(hx:items[i]? =none)
  (hE:∀h' e,Heap.ExtBut it s.heap h'->(∃o,h'.get? e=some o/\o.cls=.type "StopIteration")->E (.ref e) {s with heap:=h'}):AH (AE prog w) A (Builtin.SmallTypes.nextOf (.ref it)) Q E s:=by
 unfold Builtin.SmallTypes.nextOf;obtain⟨o,ho,hc,hd⟩:=id hit;obtain⟨ol,hol,_,nl,hdl⟩:=hl;refine AA (AS (name:=Str.ofString "__next__") hit.typeIs F.slot_tuple_iterator_next (AT F.slot_tuple_iterator_next hit.typeIs F.entry_tuple_iterator_next ?_ (F.args_tuple_iterator_next_1 _)));show AH _ _ (field (.ref it) 0>>=λl=>if(l==Value.none)=true then _ else field (.ref it) 1>>=_) _ _ s;refine AA (Ad ho hd (x:=.ref t) rfl ?_);rw[if_neg (by exact bN)];refine AA (Ad ho hd (x:=.int i 0) rfl (show AH _ _ (seqItems? (.ref t)>>=_) _ _ s from AA (AX hol hdl ?_)));simp only[dE,hx];refine AA (Au (AA (Ay ho hd (by simp) (show AH _ _ (newExc (.type "StopIteration") []>>=_) _ _ _ from AA ?_))));simp only[newExc,newTuple];refine AA (AN (AA (m:=BI _ _) (wpAny_of_eq (a:=Value.none) (by first|rfl|(simp only[BI];rfl)) (AN ?_ (by size_fits)))) (by size_fits));simp only[raiseNew];refine AA (wpAny_handled ?_);rw[show A.in1.handled=none from hh];exact AA (AB (wpAny_throw (hE _ _ (((Heap.SameBut.update ..).extBut.push _).push _) ⟨_,aZ _ rfl,rfl⟩)))
theorem aAu{tp:Bool}{it t:BQ}{i:Nat}{items:Array BO}{x:BO}{Q:BO->BP->Prop}(hit:ItAt tp s.heap it t i)(hl:SqAt tp s.heap t items)(hx:items[i]? =some x)(hQ:∀h',ItAt tp h' it t (i+1)->Heap.SameBut it s.heap h'->Q x {s with heap:=h'}):AH (AE prog w) A (Builtin.SmallTypes.nextOf (.ref it)) Q E s:=by
 cases tp with
 |true=>exact aGR hit hl hx hQ
 |false=>exact wpAny_nextOf_list_item hit hl hx hQ
theorem aHf{tp:Bool}{it t:BQ}{i:Nat}{items:Array BO}{Q:BO->BP->Prop}(hh:A.handled=none)(hit:ItAt tp s.heap it t i)(hl:SqAt tp s.heap t items)(hx:items[i]? =none)
  (hE:∀h' e,Heap.ExtBut it s.heap h'->(∃o,h'.get? e=some o/\o.cls=.type "StopIteration")->E (.ref e) {s with heap:=h'}):AH (AE prog w) A (Builtin.SmallTypes.nextOf (.ref it)) Q E s:=by
 cases tp with
 |true=>exact aIL hh hit hl hx hE
 |false=>exact wpAny_nextOf_list_end hh hit hl hx hE
theorem aJS{p1 p2:Bool}{z TI TO i1 i2 l1 l2:BQ}{k1 k2:Nat}{xs ys:Array BO}{x y a b:BO}{Q:BO->BP->Prop}(D:ZipApart z TI TO i1 i2 l1 l2)
  (hz:IsZip s.heap z TI TO .none) (hTI:Av s.heap TI (.ref i1) (.ref i2)) (hTO:Av s.heap TO a b) (h1:ItAt p1 s.heap i1 l1 k1) (h2:ItAt p2 s.heap i2 l2 k2) (hl1:SqAt p1 s.heap l1 xs) (hl2:SqAt p2 s.heap l2 ys) (hx:xs[k1]? =some x) (hy:ys[k2]? =some y)
  (hQ:∀h',IsZip h' z TI TO (Ax s.heap.objs.size)->Av h' TO x y->ItAt p1 h' i1 l1 (k1+1)->ItAt p2 h' i2 l2 (k2+1)->Av h' s.heap.objs.size x y->h'.objs.size=s.heap.objs.size+1->(∀c o,c≠z->c≠TO->c≠i1->c≠i2->s.heap.get? c=some o->h'.get? c=some o)->Q (.ref s.heap.objs.size) {s with heap:=h'}):
  AH (AE prog w) A (Builtin.«zip.__next__» ⟨[.ref z],[]⟩) (λfin s'=>∃v,fin=.done (.ret v)/\Q v s') E s:=by
 refine(show AH _ _ (field (.ref z) 2>>=λ_=>field (.ref z) 3>>=_) _ _ _ from AA (Ad hz rfl (x:=.bool false) rfl (AA (Ad hz rfl (x:=.ref TI) rfl (AA (AX hTI rfl ?_))))));refine(show AH _ _ (Builtin.SmallTypes.ownedTupleIsFree (.ref z)>>=_) _ _ _ from AA ?_);unfold Builtin.SmallTypes.ownedTupleIsFree;refine AA (Ad hz rfl (x:=.none) rfl (AB ?_));simp only[if_true];refine AA (Au (AA (Ad hz rfl (x:=.ref TO) rfl (AA (As hz (by simp) λg1 hz1 s1=> ?_)))))
 replace hz1:IsZip g1 z TI TO .ellipsis:=hz1
 refine AA ?_;simp only[uU,aKE,xM,aNf];have s1':=s1.extBut;refine AA (AA (wpAny_onRaise (show AH _ _ (Builtin.SmallTypes.nextOf (.ref i1)>>=_) _ _ _ from AA (aAu (h1.keep λo e=>s1' _ _ D.i1z e) (hl1.keep λo e=>s1' _ _ D.l1z e) hx λg2 n1 s2=>AB ?_))));have s2':=s2.extBut;have o2:Av g2 TO a b:=s2' _ _ D.TOi1 (s1' _ _ D.TOz hTO);refine AA (AX o2 rfl (AA (wpAny_updateSeq_pair o2 λg3 o3 s3=>AA (BA (AB ?_)))))
 replace o3:Av g3 TO x b:=o3
 have s3':=s3.extBut;refine AA (AA (wpAny_onRaise (show AH _ _ (Builtin.SmallTypes.nextOf (.ref i2)>>=_) _ _ _ from AA (aAu (h2.keep λo e=>s3' _ _ D.TOi2.symm (s2' _ _ D.i12.symm (s1' _ _ D.i2z e))) (hl2.keep λo e=>s3' _ _ D.l2TO (s2' _ _ D.l2i1 (s1' _ _ D.l2z e))) hy λg4 n2 s4=>AB ?_))));have s4':=s4.extBut;have o4:Av g4 TO x b:=s4' _ _ D.TOi2 o3;refine AA (AX o4 rfl (AA (wpAny_updateSeq_pair o4 λg5 o5 s5=>AA (BA (AB (AB ?_))))))
 replace o5:Av g5 TO x y:=o5
 have s5':=s5.extBut;refine AA (AX o5 rfl (AA (wpAny_newTuple ?_)));have sz:g5.objs.size=s.heap.objs.size:=by rw[s5.1,s4.1,s3.1,s2.1,s1.1]
 have z5:IsZip g5 z TI TO .ellipsis:=s5' _ _ D.TOz.symm (s4' _ _ D.i2z.symm (s3' _ _ D.TOz.symm (s2' _ _ D.i1z.symm hz1)));have k5:∀c o,c≠z->c≠TO->c≠i1->c≠i2->s.heap.get? c=some o->g5.get? c=some o:=λc o c1 c2 c3 c4 e=>s5' _ _ c2 (s4' _ _ c4 (s3' _ _ c2 (s2' _ _ c3 (s1' _ _ c1 e))))
 have m1:ItAt p1 g5 i1 l1 (k1+1):=n1.keep λo e=>s5' _ _ D.TOi1.symm (s4' _ _ D.i12 (s3' _ _ D.TOi1.symm e))
 have m2:ItAt p2 g5 i2 l2 (k2+1):=n2.keep λo e=>s5' _ _ D.TOi2.symm e
 have zlt:z<g5.objs.size:=aK z5;refine(show AH _ _ (Builtin.SmallTypes.ownedTupleHandOut (.ref z) (.ref g5.objs.size)>>=_) _ _ _ from AA ?_);unfold Builtin.SmallTypes.ownedTupleHandOut;refine AA (As (show IsZip (g5.push {cls:=.type "tuple",data:=.seq #[x,y]}) z TI TO .ellipsis from aD _ z5) (by simp) λg7 z7 s7=> ?_)
 replace z7:IsZip g7 z TI TO (Ax g5.objs.size):=z7
 refine As z7 (by simp) λg8 z8 s8=> ?_
 replace z8:IsZip g8 z TI TO (Ax g5.objs.size):=z8
 have up:∀c o,c≠z->g5.get? c=some o->g8.get? c=some o:=λc o c1 e=>s8.extBut _ _ c1 (s7.extBut _ _ c1 (aD _ e))
 have t8:Av g8 g5.objs.size x y:=s8.extBut _ _ (gG zlt) (s7.extBut _ _ (gG zlt) (aZ _ rfl));have q8:g8.objs.size=g5.objs.size+1:=by rw[s8.1,s7.1,iI]
 rw[sz] at z8 t8 q8;refine AB ⟨_,rfl,show Q (.ref g5.objs.size) _ from ?_⟩;rw[sz];exact hQ g8 z8 (up _ _ D.TOz o5) (m1.keep λo e=>up _ o D.i1z e) (m2.keep λo e=>up _ o D.i2z e) t8 q8 λc o c1 c2 c3 c4 e=>up c o c1 (k5 c o c1 c2 c3 c4 e)
theorem aMX{p1 p2:Bool}{z TI TO i1 i2 l1 l2:BQ}{k1 k2:Nat}{xs ys:Array BO}{a b:BO}{Q:Fin->BP->Prop}(hh:A.handled=none)(D:ZipApart z TI TO i1 i2 l1 l2)
  (hz:IsZip s.heap z TI TO .none) (hTI:Av s.heap TI (.ref i1) (.ref i2)) (hTO:Av s.heap TO a b) (h1:ItAt p1 s.heap i1 l1 k1) (h2:ItAt p2 s.heap i2 l2 k2) (hl1:SqAt p1 s.heap l1 xs) (hl2:SqAt p2 s.heap l2 ys) (hend:xs[k1]? =none\/ys[k2]? =none)
  (hE:∀h' e,(∀c o,c≠z->c≠TO->c≠i1->c≠i2->s.heap.get? c=some o->h'.get? c=some o)->(∃o,h'.get? e=some o/\o.cls=.type "StopIteration")->E (.ref e) {s with heap:=h'}):
  AH (AE prog w) A (Builtin.«zip.__next__» ⟨[.ref z],[]⟩) Q E s:=by
 refine(show AH _ _ (field (.ref z) 2>>=λ_=>field (.ref z) 3>>=_) _ _ _ from AA (Ad hz rfl (x:=.bool false) rfl (AA (Ad hz rfl (x:=.ref TI) rfl (AA (AX hTI rfl ?_))))));refine(show AH _ _ (Builtin.SmallTypes.ownedTupleIsFree (.ref z)>>=_) _ _ _ from AA ?_);unfold Builtin.SmallTypes.ownedTupleIsFree;refine AA (Ad hz rfl (x:=.none) rfl (AB ?_));simp only[if_true];refine AA (Au (AA (Ad hz rfl (x:=.ref TO) rfl (AA (As hz (by simp) λg1 hz1 s1=> ?_)))))
 replace hz1:IsZip g1 z TI TO .ellipsis:=hz1
 refine AA ?_;simp only[uU,aKE,xM,aNf];have s1':=s1.extBut;refine AA (AA (wpAny_onRaise (show AH _ _ (Builtin.SmallTypes.nextOf (.ref i1)>>=_) _ _ _ from ?_)));cases hx:xs[k1]? with
 |none=>
  refine AA (aHf hh (h1.keep λo e=>s1' _ _ D.i1z e) (hl1.keep λo e=>s1' _ _ D.l1z e) hx λg2 e s2 he=> ?_);obtain⟨oe,hoe,hce⟩:=he;have z2:IsZip g2 z TI TO .ellipsis:=s2 _ _ D.i1z.symm hz1;have ne:e≠z:=λx=>by subst x;rw[z2] at hoe;cases hoe;simp at hce
  exact As z2 (by simp) λg3 _ s3=>hE g3 e (λc o c1 _ c3 _ x=>s3.extBut _ _ c1 (s2 _ _ c3 (s1' _ _ c1 x))) ⟨oe,s3.extBut _ _ ne hoe,hce⟩
 |some x=>
  have hy:ys[k2]? =none:=by
   rcases hend with h|h
   ·rw[hx] at h;cases h
   ·exact h
  refine AA (aAu (h1.keep λo e=>s1' _ _ D.i1z e) (hl1.keep λo e=>s1' _ _ D.l1z e) hx λg2 n1 s2=>AB ?_);have s2':=s2.extBut;have o2:Av g2 TO a b:=s2' _ _ D.TOi1 (s1' _ _ D.TOz hTO);refine AA (AX o2 rfl (AA (wpAny_updateSeq_pair o2 λg3 o3 s3=>AA (BA (AB ?_)))));have s3':=s3.extBut;refine AA (AA (wpAny_onRaise (show AH _ _ (Builtin.SmallTypes.nextOf (.ref i2)>>=_) _ _ _ from AA (aHf hh (h2.keep λo e=>s3' _ _ D.TOi2.symm (s2' _ _ D.i12.symm (s1' _ _ D.i2z e))) (hl2.keep λo e=>s3' _ _ D.l2TO (s2' _ _ D.l2i1 (s1' _ _ D.l2z e))) hy λg4 e s4 he=> ?_))));obtain⟨oe,hoe,hce⟩:=he;have z4:IsZip g4 z TI TO .ellipsis:=s4 _ _ D.i2z.symm (s3' _ _ D.TOz.symm (s2' _ _ D.i1z.symm hz1));have ne:e≠z:=λx=>by subst x;rw[z4] at hoe;cases hoe;simp at hce
  exact As z4 (by simp) λg5 _ s5=>hE g5 e (λc o c1 c2 c3 c4 x=>s5.extBut _ _ c1 (s4 _ _ c4 (s3' _ _ c2 (s2' _ _ c3 (s1' _ _ c1 x))))) ⟨oe,s5.extBut _ _ ne hoe,hce⟩
theorem aGI{p1 p2:Bool}{z TI TO i1 i2 l1 l2:BQ}{k1 k2:Nat}{xs ys:Array BO}{x y a b:BO}{Q:Option BO->BP->Prop}(D:ZipApart z TI TO i1 i2 l1 l2)
  (hz:IsZip s.heap z TI TO .none) (hTI:Av s.heap TI (.ref i1) (.ref i2)) (hTO:Av s.heap TO a b) (h1:ItAt p1 s.heap i1 l1 k1) (h2:ItAt p2 s.heap i2 l2 k2) (hl1:SqAt p1 s.heap l1 xs) (hl2:SqAt p2 s.heap l2 ys) (hx:xs[k1]? =some x) (hy:ys[k2]? =some y)
  (hQ:∀h',IsZip h' z TI TO (Ax s.heap.objs.size)->Av h' TO x y->ItAt p1 h' i1 l1 (k1+1)->ItAt p2 h' i2 l2 (k2+1)->Av h' s.heap.objs.size x y->h'.objs.size=s.heap.objs.size+1->(∀c o,c≠z->c≠TO->c≠i1->c≠i2->s.heap.get? c=some o->h'.get? c=some o)->Q (some (.ref s.heap.objs.size)) {s with heap:=h'}):
  AH (AE prog w) A (pyNext (.ref z)) Q E s:=by
 have hT:s.TypeIs (.ref z) "zip":=⟨_,hz,rfl⟩;unfold pyNext;exact AA (BL (AS (name:=Str.ofString "__next__") hT F.slot_zip_next (AT F.slot_zip_next hT F.entry_zip_next (aJS D hz hTI hTO h1 h2 hl1 hl2 hx hy λh' a1 a2 a3 a4 a5 a6 a7=>AB (hQ h' a1 a2 a3 a4 a5 a6 a7)) (F.args_zip_next_1 _))))
theorem aKf{p1 p2:Bool}{z TI TO i1 i2 l1 l2:BQ}{k1 k2:Nat}{xs ys:Array BO}{a b:BO}{Q:Option BO->BP->Prop}(hh:A.handled=none)(D:ZipApart z TI TO i1 i2 l1 l2)
  (hz:IsZip s.heap z TI TO .none) (hTI:Av s.heap TI (.ref i1) (.ref i2)) (hTO:Av s.heap TO a b) (h1:ItAt p1 s.heap i1 l1 k1) (h2:ItAt p2 s.heap i2 l2 k2) (hl1:SqAt p1 s.heap l1 xs) (hl2:SqAt p2 s.heap l2 ys) (hend:xs[k1]? =none\/ys[k2]? =none)
  (hQ:∀h',(∀c o,c≠z->c≠TO->c≠i1->c≠i2->s.heap.get? c=some o->h'.get? c=some o)->Q none {s with heap:=h'}):AH (AE prog w) A (pyNext (.ref z)) Q E s:=by
 have hT:s.TypeIs (.ref z) "zip":=⟨_,hz,rfl⟩;unfold pyNext;refine AA (BL (AS (name:=Str.ofString "__next__") hT F.slot_zip_next (AT F.slot_zip_next hT F.entry_zip_next (aMX hh D hz hTI hTO h1 h2 hl1 hl2 hend λh' e hk he=> ?_) (F.args_zip_next_1 _))));obtain⟨o,ho,hc⟩:=he;exact AA (wpAny_isInstance (T:="StopIteration") (b:=true) ⟨o,ho,hc⟩ isSubtype_stop (AB (hQ _ hk)))
end
theorem aHn{X:Cx}{pins:List (BQ×BZ)}{σ:St}{H:Hp}{s:BP}{h':BS}{t':Nat}{ch:List BQ}(I:Inv X pins σ H s)(k:∀b o,b∉ch->s.heap.get? b=some o->h'.get? b=some o)(f:∀b∈ch,uA X pins H b):Inv X pins σ H {s with heap:=h',toks:=t'}:=by
 have nit:∀b u,H b=some u->b∉ch:=λb u q hb=>by rw[(f b hb).1] at q;cases q
 refine I.step (g':=s.gens) (d':=s.drawn) (ch:=ch) (λb hb=> ?_) (λb o _ _ hc q _=>k b o hc q) (λb o _ _ hc q _=>⟨o.slots,k b o hc q⟩) (λ_ _ _ _ n=>n) (λb o hc q=>⟨o,k b o hc q⟩) (λ_ _ q=>q) (λ_ _ _ q=>q) (λb ps q=>⟨#[],by rw[q];simp⟩) (λm hm=> ?_) (λb u q=> ?_) I.bare
 ·have z:=f b hb;exact⟨z.2.2.2.1,z.2.1,z.2.2.2.2.1,z.2.2.2.2.2⟩
 ·obtain⟨o,es,ep,ho,r⟩:=hm;exact⟨o,es,ep,k _ o (λhb=>(f _ hb).2.1 rfl) ho,r⟩
 ·refine(I.hok b u q).stay (λc v hc g=> ?_) (λ_ g=>g) λ_ _ g=>g
  rcases hc with z|z
  ·rw[z] at g ⊢;exact k b v (nit b u q) g
  ·exact k c v (nit c _ z) g
def SqB(tp:Bool)(K:aA)(H:Hp)(a:BQ)(xs:List V):Prop:=match tp with
 |true=>SqT K H a xs
 |false=>SqL K H a xs
theorem sX{X:Cx}{pins:List (BQ×BZ)}{σ:St}{H:Hp}{s:BP}{tp:Bool}{a:BQ}{xs:List V}(I:Inv X pins σ H s)(h:SqB tp X.K H a xs):∃its:List BO,Vals xs its/\SqAt tp s.heap a its.toArray:=by
 cases tp with
 |true=>obtain⟨its,rv,p,_⟩:=I.tuple (show SqT X.K H a xs from h);exact⟨its,rv,p⟩
 |false=>obtain⟨its,rv,p,_⟩:=I.list (show SqL X.K H a xs from h);exact⟨its,rv,p.isList⟩
theorem aDD{X:Cx}{pins:List (BQ×BZ)}{σ:St}{H:Hp}{s:BP}{tp:Bool}{a:BQ}{xs ys:List V}(I:Inv X pins σ H s)(h:SqB tp X.K H a xs)(g:SqB tp X.K H a ys):xs=ys:=by
 cases tp with
 |true=>exact I.tuple_inj h g
 |false=>exact I.list_inj h g
noncomputable def Itz(p1 p2:Bool)(K:aA)(a b:BQ):It:=
 ⟨λi H=>∃xs ys x y,SqB p1 K H a xs/\SqB p2 K H b ys/\xs[i]? =some x/\ys[i]? =some y,λi H v H'=>∃p x y,v=.ref p/\H p=none/\H'=upd H p (.tup [x,y])/\(∀xs,SqB p1 K H a xs->xs[i]? =some x)/\∀ys,SqB p2 K H b ys->ys[i]? =some y,λi H=>∃xs ys,SqB p1 K H a xs/\SqB p2 K H b ys/\(xs.length<=i\/ys.length<=i)⟩
theorem aGN{P:AG}{w:AL}{K:aA}{elts:List Expr}{kk:Nat}{pos:Pos}{p1 p2:Bool}(a b z TI TO i1 i2:BQ)(D:ZipApart z TI TO i1 i2 a b):aHc P w K (.Tuple elts kk pos) (Itz p1 p2 K a b) [z,TO,i1,i2,TI] z (λi h=>IsZip h z TI TO .none/\Av h TI (.ref i1) (.ref i2)/\(∃c d,Av h TO c d)/\ItAt p1 h i1 a i/\ItAt p2 h i2 b i) where
 mem:=by simp
 obj:=λi h st c hc=>by
  obtain⟨hz,hTI,⟨x,y,hTO⟩,h1,h2⟩:=st;simp only[aQ,cV,or_false] at hc
  rcases hc with rfl|rfl|rfl|rfl|rfl
  ·exact⟨_,hz,λv q=>by cases q⟩
  ·exact⟨_,hTO,λv q=>by cases q⟩
  ·exact h1.ex
  ·exact h2.ex
  ·exact⟨_,hTI,λv q=>by cases q⟩
 keep:=λi h h' st k=>by obtain⟨hz,hTI,⟨x,y,hTO⟩,h1,h2⟩:=st;exact⟨k z (by simp) _ hz,k TI (by simp) _ hTI,⟨x,y,k TO (by simp) _ hTO⟩,h1.keep λo q=>k i1 (by simp) o q,h2.keep λo q=>k i2 (by simp) o q⟩
 item:=by
  intro X hP hw hK hc i pins s σ H E I hf st hg;subst hP hw hK;obtain⟨hz,hTI,⟨c,d,hTO⟩,h1,h2⟩:=st;obtain⟨xs,ys,x,y,qx,qy,ex,ey⟩:=hg;obtain⟨its,rv,sx⟩:=sX I qx;obtain⟨jts,rw',sy⟩:=sX I qy;obtain⟨u,hu,ru⟩:=rv.get ex;obtain⟨v,hv,rv'⟩:=rw'.get ey;refine aGI D hz hTI hTO h1 h2 sx sy (x:=u) (y:=v) (by simpa using hu) (by simpa using hv) λg1 z1 o1 n1 n2 t1 sz1 k1=> ?_
  refine⟨_,rfl,wpAny_letOwnedTupleGo_zip z1 λg2 z2 s2=> ?_⟩;have s2':=s2.extBut
  have lt:∀b∈[z,TO,i1,i2,TI],b<s.heap.objs.size:=λb hb=>by
   simp only[aQ,cV,or_false] at hb
   rcases hb with rfl|rfl|rfl|rfl|rfl
   ·exact aK hz
   ·exact aK hTO
   ·obtain⟨_,q,_⟩:=h1.ex;exact aK q
   ·obtain⟨_,q,_⟩:=h2.ex;exact aK q
   ·exact aK hTI
  have I1:Inv X pins σ H {s with heap:=g2}:=aHn (t':=s.toks) (ch:=[z,TO,i1,i2]) I (fun b o hb q=>by
   simp only[aQ,cV,or_false,not_or] at hb
   exact s2' _ _ hb.1 (k1 b o hb.1 hb.2.1 hb.2.2.1 hb.2.2.2 q)) λb hb=>hf b (by simp only[aQ,cV,or_false] at hb ⊢;rcases hb with q|q|q|q<;>simp[q])
  have hn:H s.heap.objs.size=none:=I.hok.fresh (aM _);have t2:g2.get? s.heap.objs.size=some {cls:=.type "tuple",data:=.seq #[u,v]}:=s2' _ _ (gG (lt z (by simp))) t1
  have I2:Inv X pins σ (upd H s.heap.objs.size (.tup [x,y])) {s with heap:=g2}:=by
   refine I1.track hn I.sz (gG I.lt) (λy c q=> ?_) (λy hy=> ?_) ⟨by show 2<=AM;decide,[u,v],.cons ru (.cons rv' .nil),⟨_,t2,rfl,⟨_,rfl⟩,rfl⟩⟩
   ·obtain⟨v,o,ho,_⟩:=I.cell y c q;exact bH (aK ho)
   ·exact bH (aK (I.pin y hy).1)
  refine⟨.ref s.heap.objs.size,_,I2,rfl,⟨_,x,y,rfl,hn,rfl,λzs hz=>by rw[aDD I hz qx];exact ex,λzs hz=>by rw[aDD I hz qy];exact ey⟩,⟨z2,s2' _ _ D.TIz (k1 _ _ D.TIz D.TITO D.TIi1 D.TIi2 hTI),⟨_,_,s2' _ _ D.TOz o1⟩,n1.keep λo q=>s2' _ _ D.i1z q,n2.keep λo q=>s2' _ _ D.i2z q⟩,λb hb=> ?_⟩;rw[bO (bH (lt b hb))];exact(hf b hb).1
 done:=by
  intro X hP hw hK hc i pins s σ H E I hf st hg;subst hP hw hK;obtain⟨hz,hTI,⟨c,d,hTO⟩,h1,h2⟩:=st;obtain⟨xs,ys,qx,qy,hl⟩:=hg;obtain⟨its,rv,sx⟩:=sX I qx;obtain⟨jts,rw',sy⟩:=sX I qy;have l1:=rv.length;have l2:=rw'.length
  refine aKf (I.ok.hd hc) D hz hTI hTO h1 h2 sx sy (by
   rcases hl with q|q
   ·left;simp;omega
   ·right;simp
    omega) λh' k=>⟨rfl, ?_⟩
  exact aHn (t':=s.toks) (ch:=[z,TO,i1,i2]) I (fun b o hb q=>by
   simp only[aQ,cV,or_false,not_or] at hb
   exact k b o hb.1 hb.2.1 hb.2.2.1 hb.2.2.2 q) λb hb=>hf b (by simp only[aQ,cV,or_false] at hb ⊢;rcases hb with q|q|q|q<;>simp[q])
 self:=λ_ _ _ _ _ st h=>by obtain⟨hz,_⟩:=st;exact wpAny_pyIter_zip hz h
noncomputable def itO(tp:Bool)(l:BQ):BZ:=match tp with
 |true=>{cls:=.type "tuple_iterator",data:=.fields #[.ref l,.int 0 0]}
 |false=>{cls:=.type "list_iterator",data:=.fields #[.ref l,.int 0 0]}
theorem aHN{tp:Bool}{h:BS}{it l:BQ}(e:h.get? it=some (itO tp l)):ItAt tp h it l 0:=by
 cases tp with
 |true=>exact⟨_,e,rfl,rfl⟩
 |false=>exact⟨_,e,rfl,rfl⟩
theorem aIf(tp:Bool)(l:BQ):(itO tp l).isFreed=false:=by cases tp<;>rfl
section
variable {prog:AG}{w:AL}{A:BR}{E:BO->BP->Prop}{s:BP}
theorem pyI{tp:Bool}{l:BQ}{xs:Array BO}{Q:BO->BP->Prop}(h:SqAt tp s.heap l xs)(hQ:Q (.ref s.heap.objs.size) {s with heap:=s.heap.push (itO tp l)}):AH (AE prog w) A (pyIter (.ref l)) Q E s:=by
 cases tp with
 |true=>exact wpAny_pyIter_tuple h hQ
 |false=>exact BG h hQ
end
noncomputable abbrev zA(p:Bool)(h:BS)(l:BQ):BS:=h.push (itO p l)
noncomputable abbrev zB(p q:Bool)(h:BS)(l m:BQ):BS:=(zA p h l).push (itO q m)
noncomputable abbrev zC(p q:Bool)(h:BS)(l m:BQ):BS:=(zB p q h l m).push {cls:=.type "tuple",data:=.seq #[.ref h.objs.size,.ref (zA p h l).objs.size]}
noncomputable abbrev zD(p q:Bool)(h:BS)(l m:BQ):BS:=(zC p q h l m).push {cls:=.type "tuple",data:=.seq #[.none,.none]}
noncomputable abbrev zE(p q:Bool)(h:BS)(l m:BQ):BS:=(zD p q h l m).push {cls:=.type "zip",data:=.fields #[.none,.bool false,.bool false,.ref (zB p q h l m).objs.size,.ref (zC p q h l m).objs.size]}
theorem aMA(p q:Bool)(l m:BQ)(xs ys:Array BO):Meets (Builtin.«zip.__new__» ⟨[.type "zip",.ref l,.ref m],[]⟩) (λ_ R s=>SqAt p s.heap l xs/\SqAt q s.heap m ys/\R (.ok (.ret (.ref (zD p q s.heap l m).objs.size))) {s with heap:=zE p q s.heap l m}):=
 .of_wp λprog w A R s h=>by
  obtain⟨hp,g,d,tk,os⟩:=s;obtain⟨a1,a2,h⟩:=h;have hsub:=sub_zip;have b1:SqAt p (Shared.heap ⟨hp,g,d,tk,os⟩) l xs:=a1;have b2:SqAt q (Shared.heap ⟨hp.push (itO p l),g,d,tk,os⟩) m ys:=SqAt.keep a2 λo e=>aD _ e
  wp_walk using pyI b1,pyI b2
  exact⟨_,rfl,h⟩
section
variable {prog:AG}{w:AL}{A:BR}{E:BO->BP->Prop}{s:BP}
theorem aKu{p q:Bool}{l m:BQ}{xs ys:Array BO}{Q:BO->BP->Prop}(a1:SqAt p s.heap l xs)(a2:SqAt q s.heap m ys)
  (h:∀h',IsZip h' (s.heap.objs.size+4) (s.heap.objs.size+2) (s.heap.objs.size+3) .none->Av h' (s.heap.objs.size+2) (.ref s.heap.objs.size) (.ref (s.heap.objs.size+1))->Av h' (s.heap.objs.size+3) .none .none->ItAt p h' s.heap.objs.size l 0->ItAt q h' (s.heap.objs.size+1) m 0->(∀c o,s.heap.get? c=some o->h'.get? c=some o)->Q (.ref (s.heap.objs.size+4)) {s with heap:=h'}):
  AH (AE prog w) A (call (.type "zip") [.ref l,.ref m]) Q E s:=by
 refine callType_new F.called_zip (by decide) (F.typeCall_zip_2 _ _) (F.newCall_zip_2 _ _) (λobj=>F.args_object_init_3 obj _ _) F.entry_zip_new (aMA p q l m xs ys) ⟨a1,a2, ?_⟩;have z1:(zA p s.heap l).objs.size=s.heap.objs.size+1:=iI ..;have z2:(zB p q s.heap l m).objs.size=s.heap.objs.size+2:=by rw[iI,z1]
 have z3:(zC p q s.heap l m).objs.size=s.heap.objs.size+3:=by rw[iI,z2]
 have z4:(zD p q s.heap l m).objs.size=s.heap.objs.size+4:=by rw[iI,z3]
 have g5:(zE p q s.heap l m).get? (zD p q s.heap l m).objs.size=some _:=aZ _ rfl;have g4:(zE p q s.heap l m).get? (zC p q s.heap l m).objs.size=some _:=aD _ (aZ _ rfl);have g3:(zE p q s.heap l m).get? (zB p q s.heap l m).objs.size=some _:=aD _ (aD _ (aZ _ rfl));have g2:(zE p q s.heap l m).get? (zA p s.heap l).objs.size=some (itO q m):=aD _ (aD _ (aD _ (aZ _ (aIf q m))));have g1:(zE p q s.heap l m).get? s.heap.objs.size=some (itO p l):=aD _ (aD _ (aD _ (aD _ (aZ _ (aIf p l)))));show _/\_;rw[z2,z3,z4] at g5;rw[z1,z2] at g3;rw[z3] at g4;rw[z1] at g2;rw[z4];exact⟨⟨_,g5,rfl⟩,h _ g5 g3 g4 (aHN g1) (aHN g2) λc o x=>aD _ (aD _ (aD _ (aD _ (aD _ x))))⟩
end
section
variable {X:Cx}{sd:List Slot}{e a b c tg iter:Expr}{es:List Expr}{pos:Pos}{r ra rb:R}{d:D}{ds:List D}{st:BU}{rest:List BU}{E:jR}
theorem aMa{elts:List Expr}{kk:Nat}{tp:Pos}{ta:TA}{p:Pos}{p1 p2:Bool}(hg:Gl X "zip")(hm:X.mg "zip"=none)(ha:PA X [a,b] ta)(hs:AD [a,b] X.env=[(false,eval a X.env),(false,eval b X.env)]:=by rfl)(hs2:AD [b] X.env=[(false,eval b X.env)]:=by rfl):
  PI X (.Tuple elts kk tp) (.Call (.Name "zip" p) [a,b] [] pos) (λσ H R=>ta σ H λvs H1=>∃l m,vs=[.ref l,.ref m]/\(∃xs,SqB p1 X.K H1 l xs)/\(∃ys,SqB p2 X.K H1 m ys)/\R (Itz p1 p2 X.K l m) H1):=by
 intro pins s σ H R I h;refine Call_ (lU I hg hm PyProof.Rows.boot_zip (PyProof.Rows.callWith_type1 (thn (ha pos pins s σ H _ I h) λus s1 ⟨vs,H1,I1,r1,q1⟩=> ?_) (by rw[hs,hs2]) (by rw[hs2];rfl)));obtain⟨l,m,rfl,⟨xs,qx⟩,⟨ys,qy⟩,k⟩:=q1;cases r1 with
 |cons r rr=>
  cases rr with
  |cons r2 rr2=>
   cases rr2;cases r;cases r2;obtain⟨its,rv,sx⟩:=sX I1 qx;obtain⟨jts,rw',sy⟩:=sX I1 qy;refine aKu sx sy λh' a1 a2 a3 a4 a5 kp=>wpAny_pyIter_zip a1 ?_
   have I2:Inv X pins σ H1 {s1 with heap:=h'}:=I1.kept (t':=s1.toks) kp;have lx:=sx.lt;have ly:=sy.lt
   have ap:ZipApart (s1.heap.objs.size+4) (s1.heap.objs.size+2) (s1.heap.objs.size+3) s1.heap.objs.size (s1.heap.objs.size+1) l m:=by
    refine⟨?_, ?_, ?_, ?_, ?_, ?_, ?_, ?_, ?_, ?_, ?_, ?_, ?_, ?_, ?_, ?_, ?_, ?_⟩
    all_goals first|(exact bH (by omega))|(exact gG (by omega))|(exact bH lx)|(exact bH ly)|(exact bH (aY lx (xH _ _)))|(exact bH (aY ly (xH _ _)))
   refine⟨s1.heap.objs.size+4,_,_,Itz p1 p2 X.K l m,H1,rfl,I2,aGN l m _ _ _ _ _ ap,⟨a1,a2,⟨_,_,a3⟩,a4,a5⟩,λb hb=> ?_,k⟩
   have hb2:s1.heap.objs.size<=b:=by
    simp only[aQ,cV,or_false] at hb
    rcases hb with rfl|rfl|rfl|rfl|rfl<;>omega
   exact I1.fpOk hb2 (I1.hok.fresh hb2)
noncomputable def aKx(ds es:List D):List D:=(bK (min ds.length es.length)).map λ(i:Nat)=>D.tup [ds.getD i .non,es.getD i .non]
theorem wK(ds es:List D):(aKx ds es).length=min ds.length es.length:=by simp[aKx]
theorem aBn{ds es:List D}{i:Nat}{d:D}(h:(aKx ds es)[i]? =some d):∃x y,ds[i]? =some x/\es[i]? =some y/\d=.tup [x,y]:=by
 unfold aKx at h;rw[bF] at h
 by_cases hi:i<min ds.length es.length
 ·rw[qS hi] at h;have h1:i<ds.length:=by omega
  have h2:i<es.length:=by omega
  refine⟨ds[i],es[i],by simp[h1],by simp[h2], ?_⟩;rw[<-cC.inj h];simp[bR,h1,h2]
 ·rw[dW (by simpa using hi)] at h;cases h
noncomputable def aKQ(tp:Bool)(ds:List D):D:=match tp with
 |true=>.tup ds
 |false=>.lst ds
theorem aDO{K:aA}{F:Hp}{tp:Bool}{ds:List D}{v:V}(h:Rep K F (aKQ tp ds) v):∃a xs,v=.ref a/\RepL K F ds xs/\∀ {F' H:Hp},Same F F'->Same F' H->SqB tp K H a xs:=by
 cases tp with
 |true=>simp only[aKQ,Rep] at h;obtain⟨a,xs,e,ha,rl⟩:=h;exact⟨a,xs,e,rl,λs1 s2=>.of (s2 _ _ (s1 _ _ ha))⟩
 |false=>simp only[aKQ,Rep] at h;obtain⟨a,xs,e,ha,rl⟩:=h;exact⟨a,xs,e,rl,λs1 s2=>.of (s2 _ _ (s1 _ _ ha))⟩
theorem aKn{elts:List Expr}{kk:Nat}{tp p:Pos}{es2:List D}(p1 p2:Bool)(hg:Gl X "zip")(hm:X.mg "zip"=none)(ha:PEd X sd a (.val (aKQ p1 ds)))(hb:PEd X sd b (.val (aKQ p2 es2)))(hst:AD [a,b] X.env=[(false,eval a X.env),(false,eval b X.env)]:=by rfl)(hst2:AD [b] X.env=[(false,eval b X.env)]:=by rfl):
  PId X sd PT0 (.Tuple elts kk tp) (.Call (.Name "zip" p) [a,b] [] pos) (aKx ds es2):=.mk λσ F H S=>
 (aMa (p1:=p1) (p2:=p2) hg hm xZ hst hst2).to ((aE ha (aE hb aU trivial (by rw [hst2]; rfl)) trivial (by rw [hst,hst2]) σ F H S).imp fun vs H1 ⟨F1,S1,s1,q1⟩=>by
  cases q1 with
  |cons q1 q2=>
   cases q2 with
   |cons q2 q3=>
    cases q3;obtain⟨l,xs,rfl,rx,sx⟩:=aDO (show Rep _ _ _ _ from q1);obtain⟨m,ys,rfl,ry,sy⟩:=aDO (show Rep _ _ _ _ from q2);refine⟨l,m,rfl,⟨xs,sx (Same.refl _) S1.sub⟩,⟨ys,sy (Same.refl _) S1.sub⟩,F1,S1,s1,λF' H' sF sH sm _ i=>⟨λhi=> ?_,λhi=> ?_,λx H2 d hd y=> ?_⟩⟩
    ·rw[wK] at hi;exact⟨xs,ys,xs[i]'(by rw[rx.len];omega),ys[i]'(by rw[ry.len];omega),sx sF sH,sy sF sH,by simp,by simp⟩
    ·rw[wK] at hi;refine⟨xs,ys,sx sF sH,sy sF sH, ?_⟩;rw[rx.len,ry.len];omega
    ·obtain⟨q,u,v,rfl,hq,rfl,hu,hv⟩:=y;obtain⟨du,dv,e1,e2,rfl⟩:=aBn hd;have hu:=hu xs (sx sF sH);have hv:=hv ys (sy sF sH);obtain⟨u',h1,ru⟩:=rx.get e1;obtain⟨v',h2,rv⟩:=ry.get e2;rw[hu] at h1;rw[hv] at h2;cases h1;cases h2;have fq:F' q=none:=sH.free hq;have s2:Same F' (upd F' q (.tup [u,v])):=λb o g=>by rw[bO (cH g fq)];exact g
     refine⟨upd F' q (.tup [u,v]),s2, ?_,λH₀ σ sd S=>(S.lay (o:=.tup [u,v]) hq trivial).1⟩;simp only[Rep]
     exact⟨q,_,rfl,cD,.cons ((ru.mono sF).mono s2) (.one ((rv.mono sF).mono s2))⟩)
end
theorem oU(L:List (List Int))(m:Nat):(L.flatMap λs=>(bK m).map λ(w:Nat)=>s++[(w:Int)]).length=L.length*m:=by
 induction L with
 |nil=>simp
 |cons s L ih=>rw[List.flatMap_cons,bB,ih,aB,eM,bU,aFd,Nat.add_comm]
theorem rL:∀ (m k:Nat),(iM m k).length=m^k
 |_,0=>rfl
 |m,k+1=>by show((iM m k).flatMap _).length=_;rw[oU,rL m k,pD]
theorem xC:∀ (m k:Nat),∀s∈iM m k,s.length=k
 |_,0,s,h=>by
  have:s=[]:=by simpa[iM] using h
  subst this;rfl
 |m,k+1,s,h=>by obtain⟨t,ht,hs⟩:=dO.mp h;obtain⟨w,_,rfl⟩:=aO.mp hs;rw[bB,xC m k t ht];rfl
theorem yE:∀p∈bX,∀k,k<p.2.toNat->((2^p.1.toNat)^k)*2^p.1.toNat<=900:=by decide+kernel
noncomputable def tabQ(p:Int×Int)(L:List SK)(row:List Nat):List (List Int):=(iM (2^p.1.toNat) p.2.toNat).map λws=>aNA p L row ws
theorem lI{p:Int×Int}(hp:p∈bX):(iM (2^p.1.toNat) p.2.toNat).length<=64:=by
 have:∀p∈bX,(2^p.1.toNat)^p.2.toNat<=64:=by decide+kernel
 rw[rL];exact this p hp
theorem uX{L:List (List Int)}{d:D}(h:d∈L.map bG):∃ws∈L,d=bG ws:=by obtain⟨ws,hw,rfl⟩:=aO.mp h;exact⟨ws,hw,rfl⟩
noncomputable def mR:D->List Int
 |.tup ds=>ds.map λd=>match d with | .int i=>i|_=>0
 |_=>[]
theorem kM(ws:List Int):mR (bG ws)=ws:=by
 show(ws.map D.int).map _=ws;rw[aV]
 induction ws with
 |nil=>rfl
 |cons w ws ih=>rw[aX,ih];rfl
section
variable {X:Cx}{sd:List Slot}{e a b c tg iter o:Expr}{es:List Expr}{pos:Pos}{r ra rb:R}{d:D}{ds:List D}{st:BU}{rest:List BU}{E:jR}
noncomputable def isN:D->Bool
 |.non=>true
 |_=>false
theorem aAp{K:aA}{H:Hp}{d:D}{v:V}(h:Rep K H d v):decide (v=.non)=isN d:=by
 cases d with
 |non=>simp only[Rep] at h;subst h;rfl
 |bl=>simp only[Rep] at h;subst h;rfl
 |int=>simp only[Rep] at h;subst h;rfl
 |str=>simp only[Rep] at h;subst h;rfl
 |tup=>simp only[Rep] at h;obtain⟨a,xs,rfl,_⟩:=h;rfl
 |lst=>simp only[Rep] at h;obtain⟨a,xs,rfl,_⟩:=h;rfl
 |dic=>simp only[Rep] at h;obtain⟨a,rfl,_⟩:=h;rfl
 |dki=>simp only[Rep] at h;obtain⟨a,xs,rfl,_⟩:=h;rfl
 |any=>simp only[Rep] at h;obtain⟨⟨a,rfl⟩,_⟩:=h;rfl
 |scr=>simp only[Rep] at h;obtain⟨a,rfl,_⟩:=h;rfl
theorem aCX(ha:PEd X sd a (.val d))(hb:PEd X sd b (.val .non)):PTd X sd (.Compare a [.Is] [b] pos) (isN d):=
 nK aHy ha hb trivial (jC _) λσ F H v u Q S q1 q2 k=>by simp only[ResOk,Rep] at q2;have q1:Rep _ _ _ _:=q1;exact⟨q2,by rw[aAp q1];exact k F H S (Same.refl _)⟩
theorem qZ(ha:PEd X sd a (.val d))(hb:PEd X sd b (.val .non)):PTd X sd (.Compare a [.IsNot] [b] pos) (!isN d):=
 nK aIU ha hb trivial (jC _) λσ F H v u Q S q1 q2 k=>by simp only[ResOk,Rep] at q2;have q1:Rep _ _ _ _:=q1;exact⟨q2,by rw[aAp q1];exact k F H S (Same.refl _)⟩
theorem aMT(ha:PEd X sd a (.val d))(hb:PEd X sd b (.val .non)):PEd X sd (.Compare a [.Is] [b] pos) (.val (.bl (isN d))):=
 zY aHy ha hb trivial (jC _) λσ F H v u Q S q1 q2 k=>by simp only[ResOk,Rep] at q2;have q1:Rep _ _ _ _:=q1;exact⟨q2,by rw[aAp q1];exact k F H S (Same.refl _)⟩
structure FunD(K:aA)(x qual:Str)(st:BU)(f:BQ)(fd:AY):Prop where
 ex:∃ (oc:BO) (od:Option BQ) (T:BQ) (kV doc pm:BO) (an:Option BQ) (cdv ct:BO) (osl:Array (Option BO)) (tc:BO) (td:Option BQ) (n:Nat) (tsl:Array (Option BO)),
  fd=gB x qual (kR st) (iK st) (bI st) (.ref T) kV doc pm an cdv ct/\K.lookup f=some ⟨oc,od,.func fd,osl⟩/\kF K cdv qual=true/\K.lookup T=some ⟨tc,td,.seq #[.none] n,tsl⟩
 kp:eE K (.ref f)=true
structure aOO(P:AG)(w:AL)(K:aA)(mg:Str->Option BO)(base:BS)(x:Str)(k n:Nat)(C:List D->R->Prop):Prop where
 ex:∃ (f:BQ) (fd:AY) (ps:List Str),mg x=some (.ref f)/\eE K (.ref f)=true/\Binds K fd ps []/\Binds K fd ps [.none]/\FnOk P w K mg base CX0 k f fd ps (spC K n C)
end
noncomputable def bV(p:Int×Int):List (List Int):=iM (2^p.1.toNat) p.2.toNat
noncomputable def aNl:Option (List Int)->D
 |none=>.non
 |some ws=>bG ws
structure zF(p:Int×Int)(T:List (List Int)):Prop where
 len:T.length=(bV p).length
 fil:∀ws∈T,Fil p ws
theorem rO{V:List (List Int)}{k:Nat}(h:k<V.length):(V.map bG)[k]? =some (bG (V.getD k [])):=by simp[bR,h]
theorem aEf{α:Type}{L:List α}{k:Nat}(d:α)(h:k<L.length):L.take (k+1)=L.take k++[L.getD k d]:=by rw[fD];simp[bR,h]
section
variable {X:Cx}{sd:List Slot}{e a b c tg iter o:Expr}{es:List Expr}{pos:Pos}{r ra rb:R}{d:D}{ds:List D}{st:BU}{rest:List BU}{E:jR}
theorem aEC(d:D)(ds:List D)(p1:pl d=true)(p2:plL ds=true)(hu:X.A.units+1+jK ds<AQ):OpR X (AZ .NotIn) (λx y H Q=>Rep X.K H (.lst ds) y/\Rep X.K H d x/\Q (.bl (!ds.any λz=>deq z d)) H):=by
 intro pins s σ H x y v u Q I rx ry h;obtain⟨hl,hd,k⟩:=h;obtain⟨a,xs,its,rfl,rfl,rl,rv,ht⟩:=lB I.hok hl ry
 have hat:∀ (j:Nat) (w:BO),its[j]? =some w->∃z v,ds[j]? =some z/\xs[j]? =some v/\Rep X.K H z v/\RelV v w:=λj w hw=>by
  have hj:j<its.length:=(aN.mp hw).1;have hx:j<xs.length:=by rw[Vals.length rv];exact hj
  have hd:j<ds.length:=by rw[<-rl.len];exact hx
  obtain⟨v,hv,rz⟩:=rl.get (i:=j) (d:=ds[j]) (by simp[hd])
  exact ⟨ds[j],v,by simp [hd],hv,rz,by
   have:=rv.get hv;obtain⟨w',hw',r⟩:=this;rw[hw] at hw';cases hw'
   exact r⟩
 have dc:=λw:BO=>Classical.propDecidable (∃ (j:Nat) (z:D),its[j]? =some w/\ds[j]? =some z/\deq z d=true)
 refine SeqAt.notIn_listAt (λw=> @decide _ (dc w)) ht (λw hw=> ?_) ⟨.bl _,H,I,rfl, ?_⟩
 ·by_cases q:∃ (j:Nat) (z:D),its[j]? =some w/\ds[j]? =some z/\deq z d=true
  ·obtain⟨j,z,e1,e2,e3⟩:=q;obtain⟨z',v,f1,f2,f3,f4⟩:=hat j w e1;rw[e2] at f1;cases f1;have: @decide _ (dc w)=true:=by rw[decide_eq_true_eq];exact⟨j,z,e1,e2,e3⟩
   rw[this,<-e3];exact aAV I.hok z (zW p2 e2) p1 f3 hd f4 rx (by have:=xF e2;show X.A.units+1+dep z<AQ;omega)
  ·have hw':w∈its:=by simpa using hw
   obtain⟨j,hj,rfl⟩:=eZ hw';obtain⟨z,v,f1,f2,f3,f4⟩:=hat j its[j] (by simp[hj])
   have e3:deq z d=false:=by
    cases h:deq z d with
    |false=>rfl
    |true=>exact(q ⟨j,z,by simp[hj],f1,h⟩).elim
   have: @decide _ (dc its[j])=false:=by rw[decide_eq_false_iff_not];exact q
   rw[this,<-e3];exact aAV I.hok z (zW p2 f1) p1 f3 hd f4 rx (by have:=xF f1;show X.A.units+1+dep z<AQ;omega)
 ·have e:its.toArray.any (λw=> @decide _ (dc w))=ds.any λz=>deq z d:=by
   rw[kA,List.any_toArray,aKw,aKw]
   constructor
   ·rintro⟨w,hw,q⟩;rw[decide_eq_true_eq] at q;obtain⟨j,z,e1,e2,e3⟩:=q;exact⟨z,bD e2,e3⟩
   ·rintro⟨z,hz,e3⟩;obtain⟨j,hj,rfl⟩:=eZ hz;have hi:j<its.length:=by rw[<-Vals.length rv,rl.len];exact hj
    exact⟨its[j],gY hi,by rw[decide_eq_true_eq];exact⟨j,ds[j],by simp[hi],by simp[hj],e3⟩⟩
  rw[e];exact k
theorem wU(ha:PEd X sd a (.val d))(hb:PEd X sd b (.val (.lst ds)))(p1:pl d=true)(p2:plL ds=true)(hu:X.A.units+1+jK ds<AQ)(hk:Ag .NotIn b=false:=by with_unfolding_all rfl):PTd X sd (.Compare a [.NotIn] [b] pos) (!ds.any λz=>deq z d):=
 nK (aEC d ds p1 p2 hu) ha hb trivial hk λσ F H x u Q S q1 q2 k=>⟨Rep.mono S.sub q2,Rep.mono S.sub q1,k F H S (Same.refl _)⟩
end
section
variable {X:Cx}{sd:List Slot}{E:jR}{e a b o:Expr}{ds es:List D}{d:D}{pos:Pos}
theorem RepL.atI{K:aA}{H:Hp}{ds:List D}{xs:List V}{i:Int}{d:D}(r:RepL K H ds xs)(h:L2.atI ds i=some d):∃v,L2.atI xs i=some v/\Rep K H d v:=by
 unfold L2.atI at h ⊢;rw[r.len];cases e:ixN ds.length i with
 |none=>rw[e] at h;cases h
 |some j=>rw[e] at h;exact r.get h
end
theorem aLI{τ:List Nat}{b:Nat}(h:b<τ.length):(bY τ)[b]? =some (.int ((τ.getD b 0:Nat):Int)):=by unfold bY;rw[bF];simp[bR,h]
section
variable {X:Cx}{sd:List Slot}{b:Expr}{pos:Pos}
theorem uR{k:Nat}{q:Nat}{p:Pos}(hb:PEd X sd b (.val (.int (k:Int))))(hk:k<=1000):PEd X sd (.BinOp (.Constant (.int 1) q p) .LShift b pos) (.val (.int ((2^k:Nat):Int))):=
 PEd.ic (cJ aHB bA hb ⟨by omega,by omega,by decide⟩) (by rw[Int.one_mul,dE];push_cast;rfl)
end
noncomputable def byT(w:AL):Bool:=w.params.followText "set-order"
noncomputable def insK(k:Nat)(ks:List Nat):List Nat:=ks.filter (λi=>decide (i<k))++k::ks.filter (λi=>decide (k<i))
noncomputable def aOV(led:Bool)(m mv:Nat)(ks:List Nat):BW:={mask:=m,place:=ks.toArray,dummies:= #[],finger:=0,led:=led,moves:=mv,plain:=true}
noncomputable def aNS(led:Bool)(ks:List Nat):BW:=if ks.length<5 then aOV led 7 0 ks else aOV led 31 1 ks
structure SmS(w:AL)(o:BZ)(ks:List Nat):Prop where
 ex:∃ (es:List (Int×BO)) (ep:Nat),o={cls:=.type "set",dict:=none,data:=.set es.toArray ep (aNS (!byT w) ks)}/\es.map (·.1)=ks.map Int.ofNat/\∀e∈es,∃t,e.2=.int e.1 t
theorem aLn{α:Type}(l:List α)(p:Nat)(y:α):iU l.toArray p y=(l.take p++y::l.drop p).toArray:=by unfold iU;apply kX.mp;simp;exact fV (by simp)
noncomputable def aCR:List Nat->List Nat->List Nat
 |ks,[]=>ks
 |ks,v::vs=>aCR (insK v ks) vs
section
variable {prog:AG}{w:AL}{A:BR}{s:BP}
noncomputable abbrev aFt(w:AL):BZ:={cls:=.type "set",dict:=none,data:=.set #[] 0 (aNS (!byT w) [])}
theorem newK{E:BO->BP->Prop}(a:BO){Q₁:BO->BP->Prop}(h:Q₁ (.ref s.heap.objs.size) {s with heap:=s.heap.push (aFt w)}):
  codeAny (AE prog w) A (.call (.builtin "set.__new__") ⟨[.type "set",a],[]⟩) (wants Q₁ E) s:=by
 refine codeAny_of_tree ?_;refine AA (m:=checkBuiltinCall "set.__new__" _) (wpAny_of_eq (F.newCall_set_1 a) (AB ⟨BE F.plain_set_new _,Ai F.entry_set_new ?_⟩));rw[Around.under_plainId F.plain_set_new];unfold Builtin.«set.__new__» Builtin.Frozenset.newClass;have q:=sub_set_self;obtain⟨hp,g,d,tk,os⟩:=s;dsimp only
 wp_walk
 refine BK (AB ?_);dsimp only;simp only[newObj];refine AA (wpAny_alloc (AB (AB ?_)));exact h
theorem aAH:isSubtype (.type "list") (.type "set")=pure false:=by rw[isSubtype_type];kernel_rfl
theorem aBQ:isSubtype (.type "list") (.type "frozenset")=pure false:=by rw[isSubtype_type];kernel_rfl
end
theorem slot_sit_next:PySem.Slot "set_iterator" "__next__" "set_iterator.__next__":=
 .of (owner:="set_iterator") (n:="__next__") (by rw[typeLookup_type,builtinLookup_eq_fast];kernel_rfl) (by decide+kernel) (by decide+kernel) (by decide+kernel) (by first|exact .inl (by decide+kernel)|exact .inr (by decide+kernel)) (by rw[isSubtype_type];kernel_rfl)
theorem wN:entryFor table "set_iterator.__next__"=some Builtin.«set_iterator.__next__»:=entryFor_of_tree (by kernel_rfl)
theorem xY(a:BO):argsOk "set_iterator.__next__" ⟨[a],[]⟩:=by unfold argsOk;kernel_rfl
theorem pX:PySem.Slot "set_iterator" "__iter__" "set_iterator.__iter__":=
 .of (owner:="set_iterator") (n:="__iter__") (by rw[typeLookup_type,builtinLookup_eq_fast];kernel_rfl) (by decide+kernel) (by decide+kernel) (by decide+kernel) (by first|exact .inl (by decide+kernel)|exact .inr (by decide+kernel)) (by rw[isSubtype_type];kernel_rfl)
theorem wQ:entryFor table "set_iterator.__iter__"=some Builtin.«dict_keyiterator.__iter__»:=entryFor_alias (id':="dict_keyiterator.__iter__") (by kernel_rfl) rfl (by decide+kernel) (by kernel_rfl)
theorem yA(a:BO):argsOk "set_iterator.__iter__" ⟨[a],[]⟩:=by unfold argsOk;kernel_rfl
theorem aCb:entryFor table "set.__iter__"=some Builtin.«frozenset.__iter__»:=entryFor_alias (id':="frozenset.__iter__") (by kernel_rfl) rfl (by decide+kernel) (by kernel_rfl)
noncomputable def oP(w:AL)(S:BQ)(ep:Nat)(es:List (Int×BO)):List (Int×BO):=if byT w then(pickOrder (w.params.setOrder S ep) es.toArray).toList else es
theorem tW{α:Type}:∀ (l:List α) (i:Nat) (h:i<l.length),(l[i]::l.eraseIdx i).Perm l
 |[],_,h=>by simp at h
 |a::l,0,_=>.refl _
 |a::l,i+1,h=>by show(l[i]'(by simpa using h)::a::l.eraseIdx i).Perm (a::l);exact(List.Perm.swap a _ _).trans (.cons a (tW l i (by simpa using h)))
theorem aDf{α:Type}(f:Nat->Nat):∀ (n k:Nat) (left:List α) (out:Array α),left.length=n->(pickOrder.go f n k left out).toList.Perm (out.toList++left)
 |0,_,left,out,h=>by have:left=[]:=gJ h;subst this;rw[dM];exact List.Perm.refl _
 |n+1,k,left,out,h=>by have hlt:f k%left.length<left.length:=tR _ (by omega);unfold pickOrder.go;rw[cZ hlt];dsimp only;refine(aDf f n (k+1) _ _ (by rw[List.length_eraseIdx_of_lt hlt];omega)).trans ?_;rw[jA,dY];exact List.Perm.append_left _ (tW left _ hlt)
theorem yL{w:AL}{S:BQ}{ep:Nat}(es:List (Int×BO)):(oP w S ep es).Perm es:=by
 unfold oP
 split
 ·have:=aDf (w.params.setOrder S ep) es.toArray.size 0 es.toArray.toList #[] (by simp);simpa[pickOrder] using this
 ·exact List.Perm.refl _
noncomputable def stK(w:AL)(ks:List Nat)(i:Nat):Nat:=if byT w then 0 else match i with
 |0=>0
 |j+1=>ks.getD j 0+1
noncomputable def itK(w:AL)(S:BQ)(ks:List Nat)(ep i:Nat):BZ:={cls:=.type "set_iterator",data:=.fields #[Ax (stK w ks i),Ax i,.ref S,Ax ks.length,Ax ep]}
section
variable {prog:AG}{w:AL}{A:BR}{E:BO->BP->Prop}{s:BP}
theorem yH{I S:BQ}{ks:List Nat}{ep i:Nat}(h:s.heap.get? I=some (itK w S ks ep i)):s.TypeIs (.ref I) "set_iterator":=⟨_,h,rfl⟩
theorem aOm{I S:BQ}{ks:List Nat}{ep i:Nat}{Q:BO->BP->Prop}(hI:s.heap.get? I=some (itK w S ks ep i))(h:Q (.ref I) s):AH (AE prog w) A (pyIter (.ref I)) Q E s:=by have hT:=yH hI;refine wpAny_pyIter_slot hT pX (AT pX hT wQ ?_ (yA _));exact AB ⟨_,rfl,"set_iterator",_,hT,slot_sit_next.lookup,h⟩
theorem aOA{r:BQ}{Q:Bool->BP->Prop}(hT:s.TypeIs (.ref r) "set")(h:Q false s):AH (AE prog w) A (Builtin.List.listLengthHint (.ref r)) Q E s:=by
 unfold Builtin.List.listLengthHint;refine AA (wpAny_specialOf hT F.slot_set_len.lookup ?_);generalize q:("set.__len__":String)=i0
 wp_delta
 rw[show splitId i0=some ("set","__len__") from by subst q;decide+kernel];subst q;refine AA (wpAny_isInstance (T:="set") (b:=true) hT sub_set_self (wpAny_ite_split (λz=>absurd z (by decide)) λ_=> ?_));refine wpAny_ite_split (λ_=>AA (wpAny_typeOf hT (AB h))) (λz=>absurd (by decide+kernel) z)
end
theorem aDj:∀ {ns:List Int}{vs:List BO},Vals (ns.map V.int) vs->IntsAre vs ns
 |[],_,.nil=>.nil
 |n::ns,_::_,.cons r t=>by obtain⟨k,rfl⟩:=r;exact .cons n k (aDj t)
noncomputable def rdQ(q:SQ):List Nat:=if q.1=6 then[] else if q.1=5 then[q.2.2.1.toNat] else if 7<=q.1 then[q.2.1.toNat] else aCR [] [q.2.1.toNat,q.2.2.1.toNat]
noncomputable def ahQ(q:SQ)(bs:List Nat):List Nat:=if bs.contains q.2.1.toNat then aCR [] (bs.filter (λb=> !decide (b=q.2.1.toNat))++rdQ q) else bs
noncomputable def bqQ(L:List SK)(look:List Nat):List Nat->List Nat
 |[]=>look
 |t::row=>ahQ (L.getD t AR).1 (bqQ L look row)
noncomputable def prQ(L:List SK)(look:List Nat):List Nat->List Nat
 |[]=>[]
 |t::row=>if(bqQ L look row).contains (L.getD t AR).1.2.1.toNat then t::prQ L look row else prQ L look row
def gV(K:aA)(F0:Hp)(d:D):V->Hp->Prop:=λv F=>Rep K F0 d v/\Same F0 F
noncomputable def gst(K:aA)(F0:Hp):Slot->Slot
 |.val d=>.gh d (gV K F0 d)
 |z=>z
theorem aHP{K:aA}{F0 H:Hp}:∀ {sd:List Slot}{σ:St},SlotsOk K F0 H sd σ->SlotsOk K F0 H (sd.map (gst K F0)) σ
 |[],_,h=>h
 |z::zs,σ,h=>by
  obtain⟨o,r,rfl,a,b⟩:=h;refine⟨o,r,rfl, ?_,aHP b⟩;cases z with
  |val d=>obtain⟨v,e,q⟩:=a;exact⟨v,e,q,λF' s=>⟨q,s⟩⟩
  |_=>exact a
theorem jU{K:aA}{F0:Hp}:∀sd:List Slot,cE (sd.map (gst K F0))=cE sd
 |[]=>rfl
 |.un::zs=>jU zs
 |.val _::zs=>jU zs
 |.gh _ _::zs=>jU zs
 |.own l _::zs=>by show l::cE (zs.map (gst K F0))=l::cE zs;rw[jU zs]
 |.od l _ _::zs=>by show l::cE (zs.map (gst K F0))=l::cE zs;rw[jU zs]
 |.ox ls _::zs=>by show ls++cE (zs.map (gst K F0))=ls++cE zs;rw[jU zs]
theorem StF.setG{K:aA}{H₀ F H:Hp}{σ:St}{v:V}{sd:List Slot}{d:D}{G:V->Hp->Prop}(S:StF K H₀ F H σ sd)(i:Nat)(q:Rep K F d v)(g:∀F',Same F F'->G v F'):StF K H₀ F H (σ.set i (some v)) (sd.set i (.gh d G)):=
 ⟨S.base,S.sub,S.smp,S.slots.set (z:=.gh d G) ⟨v,rfl,q,g⟩ i,(jS i S.nd λl e=>by simp[iH] at e).1⟩
noncomputable def GLe(K:aA)(F0:Hp):List Slot->List Slot->Prop
 |[],[]=>True
 |z::zs,u::us=>(u=.un\/∃d,z=.gh d (gV K F0 d)/\u=.val d)/\GLe K F0 zs us
 |_,_=>False
theorem GLe.slots{K:aA}{F0 F H H':Hp}:∀ {sd sd':List Slot}{σ:St},GLe K F0 sd sd'->SlotsOk K F H sd σ->SlotsOk K F0 H' sd' σ/\cE sd'=[]
 |[],[],_,_,h=>⟨h,rfl⟩
 |[],_::_,_,h,_=>h.elim
 |_::_,[],_,h,_=>h.elim
 |x::xs,y::ys,σ,h,q=>by
  obtain⟨h1,h2⟩:=h;obtain⟨o,r,rfl,a,b⟩:=q;obtain⟨c1,c2⟩:=GLe.slots (H':=H') h2 b
  rcases h1 with rfl|⟨d,rfl,rfl⟩
  ·exact⟨⟨o,r,rfl,trivial,c1⟩,c2⟩
  ·obtain⟨v,e,_,g⟩:=a;exact⟨⟨o,r,rfl,⟨v,e,(g F (Same.refl _)).1⟩,c1⟩,c2⟩
section
variable {X:Cx}{sd:List Slot}{e a b c tg iter o:Expr}{es:List Expr}{pos:Pos}{r ra rb:R}{d d':D}{ds ls:List D}{st:BU}{rest:List BU}{E:jR}
theorem oE(i:Nat){x:Str}{G:V→Hp→Prop}(hs:sd[i]? =some (.gh d G))(h:PE X (.Name x pos) (lH i)):PEd X sd (.Name x pos) (.val d):= .mk fun σ F H S=>h.to (by
 obtain⟨o,h1,v,h2,q,_⟩:=S.slots.get hs
 exact⟨v,by rw[h1,h2],F,S,Same.refl _,q⟩)
end
theorem wM:∀ {sd:List Slot}{i:Nat}{z:Slot},(cE sd).Nodup->sd[i]? =some z->(iH z).Nodup
 |[],_,_,_,e=>by simp at e
 |y::zs,0,z,h,e=>by
  have:y=z:=by simpa using e
  subst this;exact(bJ.mp (show(iH y++cE zs).Nodup from h)).1
 |y::zs,i+1,z,h,e=>wM (sd:=zs) (i:=i) (bJ.mp (show(iH y++cE zs).Nodup from h)).2.1 (by simpa using e)
section
variable {K:aA}{H₀ F F' H H':Hp}{σ:St}{sd:List Slot}{i:Nat}{l:BQ}{ls:List BQ}{nss:List (List Int)}
theorem StF.reX{z z':Slot}{o:Option V}(S:StF K H₀ F H σ sd)(hs:sd[i]? =some z)(ho:σ[i]? =some o)(keep:∀b ob,b∉iH z->H b=some ob->H' b=some ob)(sm:Smp H')(q:iT K F H' z' o)(nd:(iH z').Nodup)(no:∀a∈iH z',a∈iH z\/a∉cE sd):StF K H₀ F H' σ (sd.set i z'):=by
 have S0:=S.le (iF sd i);have mz:∀a∈iH z,a∈cE sd:=λa ha=>dO.mpr ⟨z,bD hs,ha⟩
 refine⟨S.base,λb u e=> ?_,sm, ?_, ?_⟩
 ·refine keep b u (λhb=> ?_) (S.sub _ _ e);have:=(S.slots.owns (mz b hb)).1;rw[e] at this;cases this
 ·have q1:SlotsOk K F H' (sd.set i .un) σ:=S0.slots.mono (Same.refl _) λa ha=>⟨(S0.slots.owns ha).1,λob e=>keep a ob (λhb=>jD S.nd hs hb ha) e⟩
  have q2:=q1.set (z:=z') (o:=o) q i;rw[kC,lQ ho] at q2;exact q2
 ·have:=jS (z:=z') i S0.nd (fun a ha=>by
   rcases no a ha with h|h
   ·exact .inl (jD S.nd hs h)
   ·exact .inl λhm=>h ((iF sd i).own.subset hm)) nd
  rw[kC] at this;exact this.1
noncomputable def inF(F H:Hp)(as:List BQ):Hp:=λb=>if b∈as then H b else F b
theorem aHF{as:List BQ}{b:BQ}(h:b∈as):inF F H as b=H b:=if_pos h
theorem aCC{as:List BQ}{b:BQ}(h:b∉as):inF F H as b=F b:=if_neg h
theorem aKr{as:List BQ}(h:∀a∈as,F a=none):Same F (inF F H as):=λb u e=>by rw[aCC (λhb=>by rw[h b hb] at e;cases e)];exact e
theorem StF.inN(S:StF K H₀ F H σ sd)(h0:∀a∈l::ls,F a=none)(no:∀a∈l::ls,a∉cE sd):StF K H₀ (inF F H (l::ls)) H σ sd/\Same F (inF F H (l::ls)):=by
 have s1:=aKr (H:=H) h0;refine⟨⟨λb u e=>s1 _ _ (S.base _ _ e),λb u e=> ?_,S.smp,S.slots.mono s1 λa ha=>⟨?_,λob e=>e⟩,S.nd⟩,s1⟩
 ·by_cases h:b∈l::ls
  ·rw[aHF h] at e;exact e
  ·rw[aCC h] at e;exact S.sub _ _ e
 ·rw[aCC (λhb=>no a hb ha)];exact(S.slots.owns ha).1
end
section
variable {X:Cx}{sd:List Slot}{e a b c tg iter o:Expr}{es:List Expr}{pos:Pos}{r ra rb:R}{d:D}{ds:List D}{st:BU}{rest:List BU}{E:jR}{l:BQ}{ls:List BQ}{nss:List (List Int)}{ns:List Int}
theorem aJg{H:Hp}{xs:List V}(h:Smp H)(a:BQ):Smp (upd H a (.lst xs)):=λb u e=>by
 by_cases z:b=a
 ·subst z;rw[cD] at e;cases e;trivial
 ·rw[bO z] at e;exact h _ _ e
end
noncomputable def InD(K:aA)(F H:Hp):List BQ->List (List D)->Prop
 |[],[]=>True
 |a::as,ds::dss=>(∃xs,H a=some (.lst xs)/\RepL K F ds xs)/\InD K F H as dss
 |_,_=>False
section
variable {K:aA}{F F' H H':Hp}
theorem InD.len:∀ {as:List BQ}{dss:List (List D)},InD K F H as dss->as.length=dss.length
 |[],[],_=>rfl
 |[],_::_,h=>h.elim
 |_::_,[],h=>h.elim
 |_::as,_::dss,h=>by rw[bU,bU,InD.len h.2]
theorem InD.of:∀ {as:List BQ}{dss:List (List D)},InD K F H as dss->∀a∈as,∃xs,H a=some (.lst xs)
 |[],[],_,a,ha=>by cases ha
 |[],_::_,h,_,_=>h.elim
 |_::_,[],h,_,_=>h.elim
 |b::as,_::dss,h,a,ha=>by
  rcases aQ.mp ha with rfl|ha
  ·exact⟨h.1.choose,h.1.choose_spec.1⟩
  ·exact InD.of h.2 a ha
end
def GD(K:aA)(l:BQ)(ls:List BQ)(dss:List (List D)):V->Hp->Hp->Prop:=λv F H=>v=.ref l/\H l=some (.lst (ls.map V.ref))/\InD K F H ls dss
section
variable {K:aA}{H₀ F F' H H':Hp}{σ:St}{sd:List Slot}{i:Nat}{l:BQ}{ls:List BQ}{dss:List (List D)}
theorem InD.mono2:∀ {as:List BQ}{dss:List (List D)},InD K F H as dss->Same F F'->(∀a∈as,∀ob,H a=some ob->H' a=some ob)->InD K F' H' as dss
 |[],[],_,_,_=>trivial
 |[],_::_,h,_,_=>h.elim
 |_::_,[],h,_,_=>h.elim
 |a::as,_::dss,h,s,k=>by obtain⟨⟨xs,e,r⟩,h2⟩:=h;exact⟨⟨xs,k a aH _ e,r.mono s⟩,InD.mono2 h2 s λb hb=>k b (aI _ hb)⟩
theorem InD.get:∀ {as:List BQ}{dss:List (List D)}{t:Nat}{a:BQ},InD K F H as dss->as[t]? =some a->∃ds xs,dss[t]? =some ds/\H a=some (.lst xs)/\RepL K F ds xs
 |[],[],t,a,_,e=>by simp at e
 |[],_::_,_,_,h,_=>h.elim
 |_::_,[],_,_,h,_=>h.elim
 |b::as,ds::dss,0,a,h,e=>by
  have:b=a:=by simpa using e
  subst this;obtain⟨⟨xs,e1,r⟩,_⟩:=h;exact⟨ds,xs,rfl,e1,r⟩
 |b::as,ds::dss,t+1,a,h,e=>by obtain⟨ms,xs,e1,e2⟩:=InD.get (t:=t) h.2 (by simpa using e);exact⟨ms,xs,by simpa using e1,e2⟩
theorem InD.set:∀ {as:List BQ}{dss:List (List D)}{t:Nat}{a:BQ}{es:List D}{ys:List V},as.Nodup->InD K F H as dss->as[t]? =some a->RepL K F es ys->InD K F (upd H a (.lst ys)) as (dss.set t es)
 |[],[],t,a,_,_,_,_,e,_=>by simp at e
 |[],_::_,_,_,_,_,_,h,_,_=>h.elim
 |_::_,[],_,_,_,_,_,h,_,_=>h.elim
 |b::as,ds::dss,0,a,es,ys,nd,h,e,r=>by
  have:b=a:=by simpa using e
  subst this;refine⟨⟨ys,cD,r⟩,h.2.mono2 (Same.refl _) λc hc ob q=> ?_⟩;rw[bO (show c≠b from λz=>(cF.mp nd).1 (z▸hc))];exact q
 |b::as,ds::dss,t+1,a,es,ys,nd,h,e,r=>by
  have e':as[t]? =some a:=by simpa using e
  obtain⟨⟨xs,e1,r1⟩,h2⟩:=h;refine⟨⟨xs, ?_,r1⟩,InD.set (cF.mp nd).2 h2 e' r⟩;rw[bO (show b≠a from λz=>(cF.mp nd).1 (z▸bD e'))];exact e1
end
noncomputable def uZ(f:Nat->Bool)(A:List (List Int)):Option (List Int):=((bK A.length).find? f).map λk=>A.getD k []
theorem uV{f:Nat->Bool}{A:List (List Int)}{k:Nat}(hk:k<A.length)(h:f k=true)(hn:∀j,j<k->f j=false):uZ f A=some (A.getD k []):=by
 unfold uZ
 have:(bK A.length).find? f=some k:=by rw[List.find?_range_eq_some];exact⟨h,bP.mpr hk,λj hj=>by rw[hn j hj];rfl⟩
 rw[this];rfl
theorem vL{f:Nat->Bool}{A:List (List Int)}(hn:∀j,j<A.length->f j=false):uZ f A=none:=by unfold uZ;rw[aGU.mpr λk hk=>by rw[hn k (bP.mp hk)];simp];rfl
theorem pB{α:Type}(f:α->D)(h:∀a,pl (f a)=true):∀l:List α,plL (l.map f)=true
 |[]=>rfl
 |a::l=>by show(pl (f a)&&plL (l.map f))=true;rw[h a,pB f h l];rfl
theorem nL{α:Type}(f:α->D)(n:Nat)(h:∀a,dep (f a)<=n):∀l:List α,jK (l.map f)<=n
 |[]=>bS _
 |a::l=>Nat.max_le.mpr ⟨h a,nL f n h l⟩
noncomputable def wsD:Option (List (List Int))->D
 |none=>.non
 |some L=>.lst (L.map bG)
def WsOk(p:Int×Int)(o:Option (List (List Int))):Prop:=∀L,o=some L->0<L.length/\L.length<=100/\∀ws∈L,Fil p ws
structure qQ(p:Int×Int)(w:List (Option (List (List Int)))):Prop where
 len:w.length=(bV p).length
 ok:∀o∈w,WsOk p o
theorem aKV{w:List (Option (List (List Int)))}{k:Nat}(h:k<w.length):(w.map wsD)[k]? =some (wsD (w.getD k none)):=by simp[bR,h]
theorem aLP{w:List (Option (List (List Int)))}{k:Nat}{d:D}(h:(w.map wsD)[k]? =some d):k<w.length/\d=wsD (w.getD k none):=by
 have hk:k<w.length:=by have:=(aN.mp h).1;simpa using this
 rw[aKV hk] at h;exact⟨hk,(cC.inj h).symm⟩
theorem aKe(o:Option (List Int)):isN (aNl o)=o.isNone:=by cases o<;>rfl
theorem aOb(o:Option (List (List Int))):pl (wsD o)=true:=by
 cases o with
 |none=>rfl
 |some L=>exact oZ L
theorem aMD(o:Option (List (List Int))):dep (wsD o)<=2:=by
 cases o with
 |none=>exact bS _
 |some L=>exact Nat.succ_le_succ (nA L)
theorem aLN(w:List (Option (List (List Int)))):plL (w.map wsD)=true:=pB wsD aOb w
noncomputable def aIs(w:List (Option (List (List Int))))(T:List (List Int))(k:Nat):Bool:=match w.getD k none with
 |none=>false
 |some L=> !decide (T.getD k []∈L)
noncomputable def pZ(w:List (Option (List (List Int))))(A T:List (List Int)):Option (List Int):=uZ (aIs w T) A
def aLh:List D->R->Prop:=λds r=>∃p w T,p∈bX/\qQ p w/\zF p T/\ds=[cS p,.lst (w.map wsD),.tup (T.map bG)]/\r=.val (aNl (pZ w (bV p) T))
def aLk:List D->R->Prop:=λds r=>∃p w T,p∈bX/\qQ p w/\zF p T/\ds=[cS p,.lst (w.map wsD),.tup (T.map bG)]/\r=.val (.bl (pZ w (bV p) T).isNone)
theorem aBy(L:List (List Int))(t:List Int):((L.map bG).any λz=>deq z (bG t))=decide (t∈L):=by
 induction L with
 |nil=>simp
 |cons a L ih=>
  rw[aX,sJ,ih,aBm]
  by_cases h:t=a
  ·simp[h]
  ·have h2:¬ a=t:=λq=>h q.symm
   simp[h,h2]
theorem rV:∀a:List Nat,plL (bY a)=true/\jK (bY a)=0
 |[]=>⟨rfl,rfl⟩
 |a::as=>by obtain⟨h1,h2⟩:=rV as;unfold bY at h1 h2 ⊢;simp only[aX,plL,jK,pl,dep,h1,h2];exact⟨rfl,rfl⟩
section
variable {X:Cx}{sd:List Slot}{e a b c:Expr}{pos:Pos}{ds:List D}
theorem aEY(ds:List D)(k:Nat):DL.cutD ds (some (k:Int)) none=ds.drop k:=by
 unfold DL.cutD;rw[HT.sIx_nat,HT.sIx_none]
 by_cases q:k<=ds.length
 ·rw[Nat.min_eq_left q];exact fV (by simp)
 ·rw[Nat.min_eq_right (by omega),aCl (aM _),aCl (by omega)];simp
end
structure aPq(n:Nat)(τ:List Nat):Prop where
 len:τ.length=n
 lt:∀b∈τ,b<n
 mem:∀b,b<n->b∈τ
 nd:τ.Nodup
structure SqN(n:Nat)(q:SQ):Prop where
 k10:q.1<10
 i0:0<=q.2.1/\q.2.1<n
 j0:0<=q.2.2.1/\q.2.2.1<n
theorem aGH(h:BS)(vs:List BO)(out:Array BO):(∀b x,h.get? b=some x->(sortedAll h vs out).get? b=some x)/\∃n,(sortedAll h vs out).get? (h.objs.size+1)=some (Ab "list" out n):=by
 have hsz:((h.push (Ab "list" #[] 0)).update h.objs.size (Obj.mapSeq (·++vs.toArray))).objs.size=h.objs.size+1:=by rw[oO,size_push']
 have hoL:(((h.push (Ab "list" #[] 0)).update h.objs.size (Obj.mapSeq (·++vs.toArray))).push (Ab "list" vs.toArray 0)).get? (h.objs.size+1)=some (Ab "list" vs.toArray 0):=by rw[<-hsz];exact aZ _ rfl
 constructor
 ·intro b x g;have lt:=aK g;have n1:h.objs.size≠b:=λz=>absurd lt (by rw[z];exact eA _)
  have n2:h.objs.size+1≠b:=λz=>absurd lt (by rw[<-z];exact aBG.mpr (kG _))
  unfold sortedAll sortedHeap;rw[cI _ _ n2];refine aD _ (aD _ ?_);rw[cI _ _ n2];refine aD _ ?_;rw[cI _ _ n1];exact aD _ g
 ·obtain⟨n1,g1⟩:∃n1,((((h.push (Ab "list" #[] 0)).update h.objs.size (Obj.mapSeq (·++vs.toArray))).push (Ab "list" vs.toArray 0)).update (h.objs.size+1) (Obj.mapSeq λ_=> #[])).get? (h.objs.size+1)=some (Ab "list" #[] n1):=⟨_,BM hoL (λ_=> #[])⟩;exact⟨_,BM (aD _ (aD _ g1)) (λ_=>out)⟩
noncomputable def exO(l:BQ)(o:BZ):HO:=.ext (λh=>h.get? l=some o)
theorem vF{P:AG}{w:AL}{H:Hp}{h:BS}{l:BQ}{o:BZ}(g:h.get? l=some o):ObjOk P w H h l (exO l o):=⟨g,⟨o,g⟩,λ_ _ q k=>k _ q⟩
def TDo(P:AG)(w:AL)(F:Hp)(l:BQ)(o:BZ)(kvs:List (List Key×V)):Prop:=
 kvs.length<=AM/\(l==Ao)=false/\∃xs,KT F kvs xs/\∃es ep,o.ExactDict/\o.data=.dict es ep/\es.toList=xs.map (entryOfKey (Ar (eY P w)))/\(xs.map (·.1)).Nodup
theorem TDo.mono{P:AG}{w:AL}{F F':Hp}{l:BQ}{o:BZ}{kvs:List (List Key×V)}(t:TDo P w F l o kvs)(s:Same F F'):TDo P w F' l o kvs:=by obtain⟨z,y,xs,r,q⟩:=t;exact⟨z,y,xs,r.keeps λb ys e=>s _ _ e,q⟩
theorem KT.all{P:AG}{w:AL}{H:Hp}{h:BS}(ok:HOk P w H h){l:List (List Key×V)}{m:List (List Key×BQ×BO)}(q:KT H l m):∀x∈m,(Ar (eY P w)).is h x.1 x.2.1:=by
 induction q with
 |nil=>intro x hx;exact nomatch hx
 |@cons p q ps qs hq t ih=>
  intro x hx
  rcases aQ.mp hx with e|hx
  ·subst e;exact tJ ok (by rw[<-hq.1];exact hq.2.1)
  ·exact ih x hx
noncomputable def kD:Key->D
 |.inl i=>.int i
 |.inr x=>.str x
theorem oX{K:aA}{F:Hp}:∀ {k:List Key}{xs:List V},RepL K F (k.map kD) xs->xs=k.map kV
 |[],xs,r=>by simpa only[fU,RepL] using r
 |a::k,xs,r=>by
  rw[aX] at r;obtain⟨y,ys,rfl,q,rl⟩:=r.uncons;rw[oX rl,aX];congr 1;cases a with
  |inl i=>simp only[kD,Rep] at q;exact q
  |inr x=>simp only[kD,Rep] at q;exact q
def Gt(P:AG)(w:AL)(K:aA)(l:BQ)(ks:List (List Key))(ds:List D):V->Hp->Hp->Prop:=λv F H=>v=.ref l/\∃o xs,H l=some (exO l o)/\(∀v,o.data≠ .cell v)/\RepL K F ds xs/\ks.length=ds.length/\TDo P w F l o (ks.zip xs)
theorem sV{α β:Type}{xs:List α}{ys:List β}(h:xs.length=ys.length)(x:α)(y:β):(xs++[x]).zip (ys++[y])=xs.zip ys++[(x,y)]:=by rw[List.zip_append h];rfl
theorem zH{ks:List (List Key)}{k:List Key}(hk:k∉ks):∀ {ks':List (List Key)}{xs:List V},(∀j∈ks',j∈ks)->kU (ks'.zip xs) k=none
 |[],_,_=>rfl
 |_::_,[],_=>rfl
 |j::js,x::xs,h=>by rw[eR,kS (p:=(j,x)) (k:=k) (λe=>hk ((show j=k from e)▸h j aH))];exact zH hk λi hi=>h i (aI _ hi)
section
variable {K:aA}{H₀ F F' H H':Hp}{σ:St}{sd:List Slot}{i:Nat}{l:BQ}{P:AG}{w:AL}{ks:List (List Key)}{ds:List D}
theorem StF.setT{as:List BQ}{G:V->Hp->Hp->Prop}{v:V}(S:StF K H₀ F H σ sd)(i:Nat)(q:iT K F H (.ox as G) (some v))(nd:as.Nodup)(no:∀a∈as,a∉cE sd):StF K H₀ F H (σ.set i (some v)) (sd.set i (.ox as G)):=
 ⟨S.base,S.sub,S.smp,S.slots.set (z:=.ox as G) q i,(jS (z:=.ox as G) i S.nd (λl e=>.inl (no l e)) nd).1⟩
theorem StF.reT{z z':Slot}{o:Option V}(S:StF K H₀ F H σ sd)(hs:sd[i]? =some z)(ho:σ[i]? =some o)(keep:∀b ob,b∉iH z->H b=some ob->H' b=some ob)(sm:Smp H')(q:iT K F H' z' o)(nd:(iH z').Nodup)(no:∀a∈iH z',a∈iH z\/a∉cE sd):StF K H₀ F H' σ (sd.set i z'):=by
 have S0:=S.le (iF sd i);have mz:∀a∈iH z,a∈cE sd:=λa ha=>dO.mpr ⟨z,bD hs,ha⟩
 refine⟨S.base,λb u e=> ?_,sm, ?_, ?_⟩
 ·refine keep b u (λhb=> ?_) (S.sub _ _ e);have:=(S.slots.owns (mz b hb)).1;rw[e] at this;cases this
 ·have q1:SlotsOk K F H' (sd.set i .un) σ:=S0.slots.mono (Same.refl _) λa ha=>⟨(S0.slots.owns ha).1,λob e=>keep a ob (λhb=>jD S.nd hs hb ha) e⟩
  have q2:=q1.set (z:=z') (o:=o) q i;rw[kC,lQ ho] at q2;exact q2
 ·have:=jS (z:=z') i S0.nd (fun a ha=>by
   rcases no a ha with h|h
   ·exact .inl (jD S.nd hs h)
   ·exact .inl λhm=>h ((iF sd i).own.subset hm)) nd
  rw[kC] at this;exact this.1
theorem nM{o:BZ}(h:Smp H)(a:BQ):Smp (upd H a (exO a o)):=λb u e=>by
 by_cases z:b=a
 ·subst z;rw[cD] at e;cases e;trivial
 ·rw[bO z] at e;exact h _ _ e
end
section
variable {X:Cx}{sd:List Slot}{e a b c:Expr}{pos:Pos}{d:D}{ds:List D}{ks:List (List Key)}{k:List Key}{st:BU}{E:jR}{l:BQ}
noncomputable def aFz:BZ:={cls:=.type "dict",data:=.dict #[]}
theorem aBu:PE X (.Dict [] [] pos) (λ_ H Q=>∀p,H p=none->(p==Ao)=false->Q (.ref p) (upd H p (exO p aFz))):=λpins s σ H Q I h=>wpAny_Dict_empty ⟨.ref s.heap.objs.size,_,I.laid (a:=s.heap.objs.size) (o:=exO s.heap.objs.size aFz) (t':=s.toks) (λ_ _ q=>aD _ q) (aM _) (vF (aZ _ rfl)),rfl,h _ (I.hok.fresh (aM _)) (beq_eq_false_iff_ne.mpr (Ne.symm (bH I.big)))⟩
end
section
variable {prog:AG}{w:AL}{K:Type}[DecidableEq K]{knd:HeapKind prog w K}{A:BR}{E:BO->BP->Prop}{s:BP}
theorem pR{d a:BQ}{xs:List (K×BQ×BO)}{k:K}{v:BO}{Q:BO->BP->Prop}(hu:knd.room A)(hkey:knd.is s.heap k a)(hm:s.heap.DictOfH knd d xs)
  (hold:∀u,(atKey xs k).map (·.2)=some u->Q u {s with toks:=s.toks+knd.draws k})
  (hnew:atKey xs k=none->∀h',h'.DictOfH knd d (storedH xs k a v)->Heap.SameBut d s.heap h'->Q v {s with heap:=h',toks:=s.toks+knd.draws k})
  (hsz:xs.length<=AM):
  AH (AE prog w) A (dictSetDefault d (.ref a) v) Q E s:=by
 obtain⟨o,es,ep,ho,hc,hd,he,his,hn⟩:=hm;unfold dictSetDefault
 try with_reducible refine AV ?_
 refine AA (knd.pyHash hu hkey ?_);refine AA (wpAny_dictFind_heap (s:={s with toks:=s.toks+knd.draws k}) hu hkey ho hd he his hn ?_ ?_)
 ·intro hno;have hnot:k∉xs.map (·.1):=not_mem_keys_of_get hno
  refine AA (Au (AA (wpAny_updateDictKeys (hz:=by have e:=BD he; omega) (s:={s with toks:=s.toks+knd.draws k}) ho hd (AB (hnew (atKey_none_of_get hno) _ ⟨_,_,ep+1,dX _ ho (Obj.isFreed_of_dict (Obj.data_mapDictKeys hd _)),
   hc.mapDictKeys _,Obj.data_mapDictKeys hd _, ?_, ?_, ?_⟩ (Heap.SameBut.update ..))))))
  ·rw[storedH_new (atKey_none_of_get hno)];simp[he,entryOfKey]
  ·rw[storedH_new (atKey_none_of_get hno)];intro x hx
   rcases bC.mp hx with hx|hx
   ·exact knd.keeps (his x hx) ho hd (Heap.SameBut.update ..)
   ·simp only[aJ] at hx;subst hx;exact knd.keeps hkey ho hd (Heap.SameBut.update ..)
  ·rw[storedH_new (atKey_none_of_get hno)];rw[aP,bJ];refine⟨hn,by simp, ?_⟩;intro x hx y hy;simp only[aX,fU,aJ] at hy;subst hy;exact λe=>hnot (e▸hx)
 ·intro j p hj;refine AA (An (s:={s with toks:=s.toks+knd.draws k}) ho hd ?_);rw[entry_at he j,hj];have:=hold p.2 (by rw[atKey_of_get hn hj];rfl);exact AA (Au (AB this))
end
section
variable {prog:AG}{w:AL}{K:Type}[DecidableEq K](knd:HeapKind prog w K)(d a:BQ)
theorem rX(hd:(d==Ao)=false)(dflt:BO):
  MeetsIn prog w (Builtin.«dict.setdefault» ⟨[.ref d, .ref a,dflt],[]⟩) (fun A R s=>knd.room A.in1∧∃k xs,knd.is s.heap k a∧s.heap.DictOfH knd d xs∧xs.length≤AM∧
   (∀u,(atKey xs k).map (·.2)=some u->R (.ok (.ret u)) {s with toks:=s.toks+knd.draws k})/\
   (atKey xs k=none->∀h',h'.DictOfH knd d (storedH xs k a dflt)->Heap.SameBut d s.heap h'->R (.ok (.ret dflt)) {s with heap:=h',toks:=s.toks+knd.draws k})):=
 .of_wp λA R s ⟨hu,k,xs,hkey,hm,hz,h1,h2⟩=>by unfold Builtin.«dict.setdefault»;refine AA ?_;unfold Builtin.Dict.keyAndDefault;refine AA (BF hm.typeIs ?_);show AH _ _ (pure (d,Value.ref a,some dflt)) _ _ s;refine AB ?_;show AH _ _ (if(d==Ao)=true then _ else(dictSetDefault d (.ref a) dflt>>=_)) _ _ s;rw[if_neg (by rw[hd];exact bN)];exact AA (pR (hsz:=hz) hu hkey hm (λv hv=>AB ⟨v,rfl,h1 v hv⟩) λhn h' hm' hs'=>AB ⟨dflt,rfl,h2 hn h' hm' hs'⟩)
end
section
variable {X:Cx}{o e:Expr}{es:List Expr}{to:TE}{t:TA}{name:Str}{apos cpos:Pos}{id:String}{r:V->List V->Hp->VK->Prop}
theorem aKW(pa:PlainAttrs "dict")(slot:PySem.Slot "dict" name id)(hty:typeOf (.builtin id)=pure (.type "method_descriptor"))(hm:MtR X id r)(ho:PE X o to)(ha:PA X (e::es) t)
  (hbase:attributeBase o name X.env (eval o X.env)=eval o X.env:=by rfl)
  (hfew:((Aw cpos (AD (e::es) X.env)).all (fun x=> !x.1) && (backToKw cpos (keywordEach [] X.env)).all (fun x=>x.1.isSome)
  &&decide ((e::es).length+([]:List Keyword).length+(if([]:List Keyword).isEmpty then 0 else 1)<30))=true:=by rfl)
  (hline:(apos.endLine==cpos.line)=true:=by rfl) (hs:AD (e::es) X.env=(false,eval e X.env)::AD es X.env:=by rfl) (hplain:(Aw cpos (AD es X.env)).any (·.1)=false:=by rfl):
  PE X (.Call (.Attribute o name apos) (e::es) [] cpos) (λσ H Q=>to σ H λx H1=>(∃l ob,x=.ref l/\H1 l=some (exO l ob)/\ob.ExactDict)/\t σ H1 λxs H2=>r x xs H2 Q):=by
 intro pins s σ H Q I h;refine wpAny_Call_method_late hbase hfew hline rfl (thn (ho pins s σ H _ I h) λv s1 ⟨x,H1,I1,r1,⟨l,ob,e1,e2,e3⟩,q1⟩=> ?_);subst e1;obtain rfl:v=Value.ref l:=r1;have hg:s1.heap.get? l=some ob:=(I1.hok l _ e2).1;refine⟨"dict",id,pa,slot,hty,⟨ob,hg,e3.1⟩,λa q=> ?_, ?_⟩
 ·cases q;exact⟨ob,hg,e3.2.1⟩
 have hA:=ha cpos pins s1 σ H1 _ I1 q1;rw[hs] at hA ⊢;refine Calls.callWith_builtin (by show(false||(Aw cpos (AD es X.env)).any (·.1))=false;rw[hplain]<;>rfl) (Calls.evalArgs_plain ?_);exact thn hA λus s2 ⟨vs,H2,I2,r2,q2⟩=>hm pins s2 σ H2 (.ref l) vs (.ref l) us Q I2 rfl r2 q2
def rSD(X:Cx):V->List V->Hp->VK->Prop:=λx vs H Q=>∃ (F:Hp) (l ad:BQ) (k:List Key) (y:V) (o:BZ) (kvs:List (List Key×V)),x=.ref l/\vs=[.ref ad,y]/\Same F H/\H l=some (exO l o)/\F ad=some (.tup (k.map kV))/\X.A.units+1<AQ/\
 TDo X.prog X.w F l o kvs/\kvs.length+1<=AM/\(∀z,kU kvs k=some z->Q z H)/\(kU kvs k=none->∀o',(∀v,o'.data≠ .cell v)->TDo X.prog X.w F l o' (kvs++[(k,y)])->Q y (upd H l (exO l o')))
theorem aOE:MtR X "dict.setdefault" (rSD X):=by
 intro pins s σ H x vs v us Q I rx rv h;obtain⟨F,l,ad,k,y,o,kvs,rfl,rfl,sF,hl,ha,hu,⟨z,hm,ts,kt,es,ep,t1,t2,t3,t4⟩,hz1,q1,q2⟩:=h;obtain rfl:v=Value.ref l:=rx;cases rv with
 |cons r1 rv=>
  obtain⟨u,rfl,ru⟩:=Vals.one rv;rename_i b;obtain rfl:b=Value.ref ad:=r1;have ho:s.heap.get? l=some o:=(I.hok l _ hl).1;have ktH:KT H kvs ts:=kt.keeps λb ys e=>sF _ _ e
  have dd:s.heap.DictOfH (Ar (eY X.prog X.w)) l ts:=⟨o,es,ep,ho,t1,t2,t3,KT.all I.hok ktH,t4⟩;have hz:ts.length<=AM:=by rw[<-Paired.length kt];exact z
  refine call_meetsIn uI dd.typeIs PySem.F.entry_dict_setdefault (PySem.F.args_dict_setdefault_3 _ _ _) (rX (Ar (eY X.prog X.w)) l ad hm u) ⟨BN hu,k,ts,tJ I.hok (sF _ _ ha),dd,hz,λw' hw=> ?_,λhn h' dd' hsm=> ?_⟩
  ·have rl:=ktH.val k;rw[hw] at rl;cases hv:kU kvs k with
   |none=>rw[hv] at rl;cases rl
   |some z'=>rw[hv] at rl;exact⟨z',H,I.tok _,rl,q1 z' hv⟩
  ·have hn':kU kvs k=none:=by
    have rl:=ktH.val k;rw[hn] at rl;cases hv:kU kvs k with
    |none=>rfl
    |some z'=>rw[hv] at rl;cases rl
   obtain⟨q,es',ep',hq,u2,u3,u4,_,u5⟩:=dd';have I4:=uS (t':=s.toks+(Ar (eY X.prog X.w)).draws k) I (ob:=exO l q) (by rw[hl];exact True.intro) hsm ⟨q,hq⟩ (vF hq);have kt':=kt.put k ha ru;rw[wX y hn'] at kt';exact⟨y,_,I4,ru,q2 hn' q (λv z=>by rw[u3] at z;cases z) ⟨by rw[bB];exact hz1,hm,_,kt',es',ep',u2,u3,u4,u5⟩⟩
end
def Gg(P:AG)(w:AL)(K:aA)(l:BQ)(ks:List (List Key))(ls:List BQ)(dss:List (List D)):V->Hp->Hp->Prop:=λv F H=>v=.ref l/\(∃o,H l=some (exO l o)/\(∀v,o.data≠ .cell v)/\ks.length=ls.length/\TDo P w F l o (ks.zip (ls.map V.ref)))/\InD K F H ls dss
noncomputable def odG(P:AG)(w:AL)(K:aA)(l:BQ)(ks:List (List Key))(ls:List BQ)(dss:List (List D)):Slot:=.ox (l::ls) (Gg P w K l ks ls dss)
theorem yG:∀ {ks:List (List Key)}{xs:List V}{k:List Key}{z:V},kU (ks.zip xs) k=some z->∃n:Nat,ks[n]? =some k/\xs[n]? =some z
 |[],_,_,_,h=>by cases h
 |_::_,[],_,_,h=>by cases h
 |j::js,y::ys,k,z,h=>by
  rw[eR] at h
  by_cases e:j=k
  ·rw[nJ (p:=(j,y)) e] at h;exact⟨0,by simp[e],by simpa using h⟩
  ·rw[kS (p:=(j,y)) (k:=k) e] at h;obtain⟨n,h1,h2⟩:=yG h;exact⟨n+1,by simpa using h1,by simpa using h2⟩
theorem aDr:∀ {ks:List (List Key)}{xs:List V}{k:List Key},ks.length=xs.length->kU (ks.zip xs) k=none->k∉ks
 |[],_,_,_,_=>by simp
 |_::_,[],_,h,_=>by cases h
 |j::js,y::ys,k,hl,h=>by
  rw[eR] at h
  by_cases e:j=k
  ·rw[nJ (p:=(j,y)) e] at h;cases h
  ·rw[kS (p:=(j,y)) (k:=k) e] at h;have:=aDr (Nat.succ.inj hl) h;exact λhm=>(aQ.mp hm).elim (λq=>e q.symm) this
theorem aEl{sd:List Slot}{i:Nat}{z:Slot}(h:sd[i]? =some z):sd.set i z=sd:=by obtain⟨hi,e⟩:=aN.mp h;rw[<-e,aCq]
section
variable {K:aA}{H₀ F F' H H':Hp}{σ:St}{sd:List Slot}{i:Nat}{l:BQ}{ls:List BQ}{dss:List (List D)}{P:AG}{w:AL}{ks:List (List Key)}
theorem iX(S:StF K H₀ F H σ sd)(hs:sd[i]? =some (odG P w K l ks ls dss)):σ[i]? =some (some (.ref l))/\(∀a∈l::ls,F a=none)/\(∃o,H l=some (exO l o)/\(∀v,o.data≠ .cell v)/\ks.length=ls.length/\TDo P w F l o (ks.zip (ls.map V.ref)))/\InD K F H ls dss/\(l::ls).Nodup:=by
 obtain⟨o,h1,v,h2,h3,h4⟩:=S.slots.get hs;obtain⟨e,q1,q2⟩:=h4 F H (Same.refl _) λ_ _ _ q=>q
 subst e h2;exact⟨h1,λa ha=>(h3 a ha).1,q1,q2,wM S.nd hs⟩
theorem wF{o:BZ}(hF:∀a∈l::ls,F a=none)(h1:H l=some (exO l o))(nc:∀v,o.data≠ .cell v)(hl:ks.length=ls.length)(t:TDo P w F l o (ks.zip (ls.map V.ref)))(h2:InD K F H ls dss):iT K F H (odG P w K l ks ls dss) (some (.ref l)):=by
 refine⟨.ref l,rfl,λa ha=>⟨hF a ha, ?_⟩,λF' H' s k=>⟨rfl,⟨o,k _ aH _ h1,nc,hl,t.mono s⟩,h2.mono2 s λa ha=>k a (aI _ ha)⟩⟩
 rcases aQ.mp ha with rfl|ha
 ·exact⟨_,h1,o,rfl,nc⟩
 ·obtain⟨xs,e⟩:=h2.of a ha;exact⟨.lst xs,e,trivial⟩
theorem StF.wrG{t:Nat}{a:BQ}{es:List D}{ys:List V}(S:StF K H₀ F H σ sd)(hs:sd[i]? =some (odG P w K l ks ls dss))(ht:ls[t]? =some a)(r:RepL K F es ys):StF K H₀ F (upd H a (.lst ys)) σ (sd.set i (odG P w K l ks ls (dss.set t es))):=by
 obtain⟨g1,g2,⟨o,g3,nc,hl,td⟩,g4,g5⟩:=iX S hs;obtain⟨n1,n2⟩:=cF.mp g5;have ma:=bD ht
 refine S.reX (z':=odG P w K l ks ls (dss.set t es)) hs g1 (fun b ob hb q=> ?_) (aJg S.smp a) (wF g2 (by
  rw[bO (show l≠a from λz=>n1 (z▸ma))]
  exact g3) nc hl td (g4.set n2 ht r)) g5 λb hb=>.inl hb
 rw[bO (show b≠a from λz=>hb (z▸aI _ ma))];exact q
theorem InD.snoc{a:BQ}:∀ {as:List BQ}{dss:List (List D)},InD K F H as dss->H a=some (.lst [])->InD K F H (as++[a]) (dss++[[]])
 |[],[],_,e=>⟨⟨[],e,.nil⟩,trivial⟩
 |[],_::_,h,_=>h.elim
 |_::_,[],h,_=>h.elim
 |_::_,_::_,h,e=>⟨h.1,InD.snoc h.2 e⟩
theorem StF.newG{a:BQ}{o:BZ}{k:List Key}(S:StF K H₀ F H σ sd)(hs:sd[i]? =some (odG P w K l ks ls dss))(fa:F a=none)(ha:H a=some (.lst []))(na:a∉cE sd)(nc:∀v,o.data≠ .cell v)(td:TDo P w F l o (ks.zip (ls.map V.ref)++[(k,.ref a)])):
  StF K H₀ F (upd H l (exO l o)) σ (sd.set i (odG P w K l (ks++[k]) (ls++[a]) (dss++[[]]))):=by
 obtain⟨g1,g2,⟨o',g3,nc',hl,_⟩,g4,g5⟩:=iX S hs;obtain⟨n1,n2⟩:=cF.mp g5;have ml:∀b∈l::ls,b∈cE sd:=λb hb=>dO.mpr ⟨_,bD hs,hb⟩
 have al:a≠l:=λz=>na (z▸ml l aH)
 have als:a∉ls:=λz=>na (ml a (aI _ z))
 have sp:∀b,b∈l::(ls++[a])->b∈l::ls\/b=a:=λb hb=>by
  rcases aQ.mp hb with h|h
  ·exact .inl (h▸aH)
  ·rcases bC.mp h with h|h
   ·exact .inl (aI _ h)
   ·exact .inr (aJ.mp h)
 refine S.reX (z':=odG P w K l (ks++[k]) (ls++[a]) (dss++[[]])) hs g1 (λb ob hb q=> ?_) (nM S.smp l) (wF (λb hb=> ?_) cD nc (by rw[bB,bB,hl];rfl) ?_ ?_) ?_ λb hb=> ?_
 ·rw[bO (show b≠l from λz=>hb (z▸aH))];exact q
 ·rcases sp b hb with h|rfl
  ·exact g2 b h
  ·exact fa
 ·rw[aP,aX,fU,sV (by rw[aB];exact hl)];exact td
 ·refine InD.snoc (g4.mono2 (Same.refl _) λb hb ob q=> ?_) ?_
  ·rw[bO (show b≠l from λz=>n1 (z▸hb))];exact q
  ·rw[bO al];exact ha
 ·show(l::(ls++[a])).Nodup;refine cF.mpr ⟨λh=> ?_,bJ.mpr ⟨n2,by simp,λb hb c hc e=>als (aJ.mp hc▸e▸hb)⟩⟩
  rcases bC.mp h with h|h
  ·exact n1 h
  ·exact al (aJ.mp h).symm
 ·rcases sp b hb with h|rfl
  ·exact .inl h
  ·exact .inr na
end
section
variable {X:Cx}{sd:List Slot}{e a b c:Expr}{pos:Pos}{d:D}{ds:List D}{ks:List (List Key)}{k:List Key}{st:BU}{E:jR}{l:BQ}{ls:List BQ}{dss:List (List D)}
theorem aEe(i:Nat){x:Str}{p p2:Pos}(hN:X.N.Nodup)(hi:X.N[i]? =some x)(hx:Loc X.env.scope x)(hE:∀l,E.nx (sd.set i (odG X.prog X.w X.K l [] [] [])))(hs:Ak (.Dict [] [] p2) (some (.Name x p)) pos.line X.env=pure false:=by rfl)
  (hf:X.fn x=true\/X.env.scope.names.lookup x=some .local:=by first|exact .inl rfl|exact .inr rfl|assumption):PSd1 X sd (.Assign [.Name x p] (.Dict [] [] p2) pos) E:=.mk λσ F H S=>
 (qR hN hi hx aBu hs hf).to λq hq hm=>by
  have fp:F q=none:=S.sub.free hq
  have no:q∉cE sd:=λhl=>by obtain⟨_,ob,h,_⟩:=S.slots.owns hl;rw[hq] at h;cases h
  have S1:StF X.K X.B₀ F (upd H q (exO q aFz)) σ sd:=by
   refine⟨S.base,λb u e=> ?_,nM S.smp q,S.slots.mono (Same.refl _) λl hl=> ?_,S.nd⟩
   ·rw[bO (cH e fp)];exact S.sub _ _ e
   ·obtain⟨n,ys,y,_⟩:=S.slots.owns hl;have hne:l≠q:=cH y hq;exact⟨n,λys e=>by rw[bO hne];exact e⟩
  refine⟨_,F,S1.setT i (wF (P:=X.prog) (w:=X.w) (K:=X.K) (ks:=[]) (ls:=[]) (dss:=[]) (λa ha=>by rw[aJ.mp ha];exact fp) cD (λv z=>by cases z) rfl ⟨bS _,hm,[],.nil, #[],0,⟨rfl,rfl,rfl⟩,rfl,rfl,eQ⟩ trivial) (by simp) λa ha=> ?_,Same.refl _,hE q⟩;rw[aJ.mp ha];exact no
theorem aEO(i:Nat){x:Str}{p ap1 cp1 p5 ap cp:Pos}(hu:X.A.units+1<AQ)(hs:sd[i]? =some (odG X.prog X.w X.K l ks ls dss))(hx:PE X (.Name x p) (lH i))(hb:PEd X sd b (.val (.tup (k.map kD))))(h:∀z,PEd X (sd.set i z) e (.val d))(hl:dss.length<=1000)(hl2:∀ds∈dss,ds.length<=1000)
  (hE1:∀n ds,ks[n]? =some k->dss[n]? =some ds->E.nx (sd.set i (odG X.prog X.w X.K l ks ls (dss.set n (ds++[d])))))
  (hE2:k∉ks->∀a,E.nx (sd.set i (odG X.prog X.w X.K l (ks++[k]) (ls++[a]) (dss++[[d]]))))
  (hm:PE X (.Call (.Attribute (.Call (.Attribute (.Name x p) "setdefault" ap1) [b, .List [] p5] [] cp1) "append" ap) [e] [] cp)
   (tBM X.K "list" rZ (λσ H Q=>lH i σ H λx H1=>(∃l ob,x=.ref l/\H1 l=some (exO l ob)/\ob.ExactDict)/\(oW (wE X b) (oW (wE X (.List [] p5)) aFr)) σ H1 λxs H2=>rSD X x xs H2 Q) (oW (wE X e) aFr)):=by exact aFG jX mW mX sQ (aKW zJ uI PySem.F.type_dict_setdefault aOE (pv _) (fP gR (fP gR pa_nil))) (fP gR pa_nil))
  (hsw:Ak (.Call (.Attribute (.Call (.Attribute (.Name x p) "setdefault" ap1) [b, .List [] p5] [] cp1) "append" ap) [e] [] cp) none pos.line X.env=pure false:=by rfl):
  PSd1 X sd (.Expr (.Call (.Attribute (.Call (.Attribute (.Name x p) "setdefault" ap1) [b, .List [] p5] [] cp1) "append" ap) [e] [] cp) pos) E:=.mk λσ F H S=>
 (rJ hm hsw).to (by
  obtain⟨h1,h2,⟨o,h3,nc,hk,td⟩,h4,h5⟩:=iX S hs;have il:i<sd.length:=(aN.mp hs).1
  have fin:∀ (F2 H2:Hp) (ks2:List (List Key)) (ls2:List BQ) (dss2:List (List D)) (n:Nat) (ad:BQ) (ds:List D),StF X.K X.B₀ F2 H2 σ (sd.set i (odG X.prog X.w X.K l ks2 ls2 dss2))->Same F F2->ls2[n]? =some ad->dss2[n]? =some ds->ds.length<=1000->E.nx (sd.set i (odG X.prog X.w X.K l ks2 ls2 (dss2.set n (ds++[d]))))->
    tyV X.K "list" (.ref ad) H2/\(oW (wE X e) aFr) σ H2 λxs H3=>rZ (.ref ad) xs H3 λ_ H4=>(lft X F E).nx σ H4:=λF2 H2 ks2 ls2 dss2 n ad ds S2 s2 hn hd hdl hE=>by
   have hs2:(sd.set i (odG X.prog X.w X.K l ks2 ls2 dss2))[i]? =some (odG X.prog X.w X.K l ks2 ls2 dss2):=oQ il;obtain⟨g1,g2,_,g4,g5⟩:=iX S2 hs2;obtain⟨ds',xs,e1,e2,e3⟩:=g4.get hn;refine⟨.inl ⟨rfl,xs,.of e2⟩,(h _ σ F2 H2 S2).imp λv H3 ⟨F3,S3,s3,q3⟩=> ?_⟩;obtain⟨f1,f2,_,f4,f5⟩:=iX S3 hs2;obtain⟨ds3,xs3,u1,u2,u3⟩:=f4.get hn;rw[hd] at u1;cases u1;have W:=S3.wrG (es:=ds++[d]) (ys:=xs3++[v]) hs2 hn (u3.app (.one q3));rw[kC] at W;exact⟨ad,xs3,v,rfl,rfl,u2,by rw[u3.len] ;exact fX hdl,_,F3,W,s2.trans s3,hE⟩
  refine⟨.ref l,h1,⟨l,o,rfl,h3,td.2.2.choose_spec.2.choose_spec.choose_spec.1⟩,(hb σ F H S).imp λv1 H1 ⟨F1,S1,s1,q1⟩=>((iA (ds:=[]) aU (bS _):PEd X sd (.List [] p5) (.own [])) σ F1 H1 S1).imp λv2 H2 ⟨F2,S2,s2,q2⟩=> ?_⟩;obtain⟨g1,g2,⟨o2,g3,nc2,hk2,td2⟩,g4,g5⟩:=iX S2 hs;simp only[ResOk,Rep] at q1;obtain⟨ad,ys,rfl,ha,rl⟩:=q1;rw[oX rl] at ha;obtain⟨a,xs,rfl,fa,ha2,rl2,na⟩:=q2;have xn:xs=[]:=gJ (by rw[rl2.len];rfl);subst xn;have zl:(ks.zip (ls.map V.ref)).length=dss.length:=by rw[lM,aB,<-hk2,pE,hk2,g4.len]
  refine⟨F2,l,ad,k,.ref a,o2,ks.zip (ls.map V.ref),rfl,rfl,S2.sub,g3,s2 _ _ ha,hu,td2,by rw[zl];have:=fX hl;omega,λz hz=> ?_,λhz o' nc' td'=> ?_⟩
  ·obtain⟨n,e1,e2⟩:=yG hz;rw[bF] at e2;obtain⟨an,e3,rfl⟩:=gQ.mp e2;obtain⟨ds,xs,d1,d2,d3⟩:=g4.get e3;have S2':StF X.K X.B₀ F2 H2 σ (sd.set i (odG X.prog X.w X.K l ks ls dss)):=by rw[aEl hs];exact S2
   exact fin F2 H2 ks ls dss n an ds S2' (s1.trans s2) e3 d1 (hl2 ds (bD d1)) (hE1 n ds e1 d1)
  ·have S3:=S2.newG hs fa ha2 na nc' td';have hE:=hE2 (aDr (by rw[aB];exact hk2) hz) a;have en:(dss++[[]]).set dss.length ([]++[d])=dss++[[d]]:=by simp
   exact fin F2 _ (ks++[k]) (ls++[a]) (dss++[[]]) dss.length a [] S3 (s1.trans s2) (by rw[<-g4.len];simp) (by simp) (bS _) (by rw[en];exact hE))
end
noncomputable def nF(p:Int×Int)(ws:List Int):Nat:=(tZ (2^p.1.toNat) ws).toNat
theorem wZ{p:Int×Int}(hp:p∈bX){ws:List Int}(G:Fil p ws):tZ (2^p.1.toNat) ws=(nF p ws:Int)/\nF p ws<(bV p).length/\(bV p).getD (nF p ws) []=ws:=by have h:=aHR (aLG p hp);obtain⟨a,b,c⟩:=aMh h G.len G.wd;refine⟨by unfold nF;omega, ?_,c⟩;show _<(iM _ _).length;rw[h.len];exact b
theorem vX{p:Int×Int}(hp:p∈bX){i:Nat}(hi:i<(bV p).length):nF p ((bV p).getD i [])=i:=by
 have h:=aHR (aLG p hp);have hi':i<2^(p.1.toNat*p.2.toNat):=by rw[<-h.len];exact hi
 have:=(h.at_ i hi').2.2.1;unfold nF;show(tZ (2^p.1.toNat) ((iM (2^p.1.toNat) p.2.toNat).getD i [])).toNat=i;rw[this];exact dE i
def aNw(A:BR)(s:BP)(x y:BO)(b:Bool):Prop:=∀ (prog:AG) (w:AL) (E:BO->BP->Prop) (Q:BO->BP->Prop),Q (.bool b) s->AH (AE prog w) A (richCompare .Lt x y) Q E s
inductive aFu(A:BR)(s:BP)(fin:Bool):List (BO×BO)->Bool->Prop
 |nil:aFu A s fin [] fin
 |eq {x y:BO}{r:List (BO×BO)}{b:Bool}:SeqAt.EqAt A.in1 s x y true->aFu A s fin r b->aFu A s fin ((x,y)::r) b
 |lt {x y:BO}{r:List (BO×BO)}{b:Bool}:SeqAt.EqAt A.in1 s x y false->aNw A.in1 s x y b->aFu A s fin ((x,y)::r) b
section
open PySem.SeqAt
open PySem.AutoSeq1 (wpAny_loadPart')
open PySem.MeetsSeq PySem.MeetsSeq2 PySem.MeetsSeq3
theorem aAe(l b:BQ)(items items2:Array BO)(n n2:Nat)(dd dd2:Option BQ)(sl sl2:Array (Option BO))(res:Bool):
  Meets (Builtin.«tuple.__lt__» ⟨[.ref l,.ref b],[]⟩)
   (fun A R s=>s.heap.get? l=some {cls:= .type "tuple",dict:=dd,data:= .seq items n,slots:=sl}∧s.heap.get? b=some {cls:= .type "tuple",dict:=dd2,data:= .seq items2 n2,slots:=sl2}∧
    aFu A s (decide (items.size<items2.size)) (items.toList.zip items2.toList) res/\R (.ok (.ret (.bool res))) s):=
 .of_wp λprog w A R s h=>by
  obtain⟨hp,g,d,tk,os⟩:=s;obtain⟨hl,hb,hx,h⟩:=h;have f2:=AutoSeq1.sub_tuple_tuple
  wp_walk using wpAny_loadPart' hl,wpAny_loadPart' hb,wpAny_forIn_list _ (λrest b s'=>b.1=none/\s'=⟨hp,g,d,tk,os⟩/\aFu A ⟨hp,g,d,tk,os⟩ (decide (items.size<items2.size)) rest res) _
  case turn=>
   rintro⟨y,x⟩ rest b s' ⟨hb',rfl,hv⟩;cases hv with
   |eq he hr=>
    refine AA (he prog w _ _ ?_)
    wp_walk
    exact⟨rfl,rfl,hr⟩
   |lt he hlt=>
    refine AA (he prog w _ _ ?_);have hri:=hlt prog w
    wp_walk using hri
    exact⟨_,rfl,by simpa using h⟩
  case fin=>
   rintro⟨b1,b2⟩ s' ⟨hb',rfl,hv⟩;simp only at hb';subst hb';cases hv
   wp_walk
   exact⟨_,rfl,by simpa[Builtin.Tuple.tupleCompareSizes] using h⟩
  case h=>exact⟨rfl,rfl,hx⟩
theorem aCg{A:BR}{s:BP}{l b:BQ}{items items2:Array BO}{res:Bool}(hl:IsTup s.heap l items)(hb:IsTup s.heap b items2)(hx:aFu A s (decide (items.size<items2.size)) (items.toList.zip items2.toList) res)
  (hu:A.units<AQ):aNw A s (.ref l) (.ref b) res:=λprog w E Q h=>by
 obtain⟨⟨cls,dd,data,sl⟩,ho,hc,n,hd⟩:=id hl;obtain⟨⟨cls2,dd2,data2,sl2⟩,ho2,hc2,n2,hd2⟩:=id hb;simp only at hc hd hc2 hd2;subst hc hd hc2 hd2
 exact richCompare_meets_room (op:= .Lt) ⟨_,ho,rfl⟩ ⟨_,ho2,rfl⟩ PySem.F.slot_tuple_lt PySem.F.entry_tuple_lt (PySem.F.args_tuple_lt_2 _ _) (aAe l b items items2 n n2 dd dd2 sl sl2 res)
  ⟨ho,ho2,hx,show Value.bool res≠Value.notImplemented/\Q (.bool res) s from⟨(λx=>nomatch x),h⟩⟩ hu
end
mutual
noncomputable def dlt:D->D->Bool
 |.int a,.int b=>decide (a<b)
 |.tup a,.tup b=>pV a b
 |_,_=>false
noncomputable def pV:List D->List D->Bool
 |[],[]=>false
 |[],_::_=>true
 |_::_,[]=>false
 |d::ds,e::es=>if deq d e=true then pV ds es else dlt d e
end
mutual
noncomputable def rG:D->D->Bool
 |.int _,.int _=>true
 |.tup a,.tup b=>xW a b
 |_,_=>false
noncomputable def xW:List D->List D->Bool
 |[],_=>true
 |_::_,[]=>true
 |d::ds,e::es=>rG d e&&xW ds es
end
section
variable {P:AG}{w:AL}{K:aA}{H:Hp}{s:BP}
mutual
theorem aId(hok:HOk P w H s.heap):∀ (d:D) {d2:D}{v1 v2:V}{u1 u2:BO}{A:BR},rG d d2=true->pl d=true->pl d2=true->Rep K H d v1->Rep K H d2 v2->RelV v1 u1->RelV v2 u2->A.units+dep d<AQ->aNw A s u1 u2 (dlt d d2)
 |.int a,d2,v1,v2,u1,u2,A,c,p1,p2,r1,r2,ru1,ru2,hu=>by
  cases d2 with
  |int b=>simp only[Rep] at r1 r2;subst r1 r2;obtain⟨t,rfl⟩:=ru1;obtain⟨t2,rfl⟩:=ru2;simp only[dlt];exact λprog w E Q h=>(PyProof.Rows.lt_int h:AH (AE prog w) A (AZ .Lt (.int a t) (.int b t2)) Q E s)
  |_=>simp[rG] at c
 |.tup ds,d2,v1,v2,u1,u2,A,c,p1,p2,r1,r2,ru1,ru2,hu=>by
  cases d2 with
  |tup es=>
   obtain⟨a,xs,its,rfl,rfl,rl,rv,ht⟩:=iS hok r1 ru1;obtain⟨b,ys,jts,rfl,rfl,rl2,rv2,ht2⟩:=iS hok r2 ru2;simp only[dlt];have l1:its.length=ds.length:=by rw[<-rv.length,rl.len]
   have l2:jts.length=es.length:=by rw[<-rv2.length,rl2.len]
   simp only[pl] at p1 p2;simp only[dep] at hu;simp only[rG] at c;refine aCg ht ht2 ?_ (by omega);exact aCG hok ds c p1 p2 rl rl2 rv rv2 (by omega) (by simp[l1,l2])
  |_=>simp[rG] at c
 |.non,d2,_,_,_,_,_,c,_,_,_,_,_,_,_=>by cases d2<;>simp[rG] at c
 |.bl _,d2,_,_,_,_,_,c,_,_,_,_,_,_,_=>by cases d2<;>simp[rG] at c
 |.str _,d2,_,_,_,_,_,c,_,_,_,_,_,_,_=>by cases d2<;>simp[rG] at c
 |.lst _,d2,_,_,_,_,_,c,_,_,_,_,_,_,_=>by cases d2<;>simp[rG] at c
 |.dic,d2,_,_,_,_,_,c,_,_,_,_,_,_,_=>by cases d2<;>simp[rG] at c
 |.dki _ _,d2,_,_,_,_,_,c,_,_,_,_,_,_,_=>by cases d2<;>simp[rG] at c
 |.any _,d2,_,_,_,_,_,c,_,_,_,_,_,_,_=>by cases d2<;>simp[rG] at c
 |.scr _,d2,_,_,_,_,_,c,_,_,_,_,_,_,_=>by cases d2<;>simp[rG] at c
theorem aCG(hok:HOk P w H s.heap):∀ (ds:List D) {es:List D}{xs ys:List V}{its jts:List BO}{A:BR}{fin:Bool},xW ds es=true->plL ds=true->plL es=true->RepL K H ds xs->RepL K H es ys->Vals xs its->Vals ys jts->A.units+1+jK ds<AQ->fin=decide (ds.length<es.length)->aFu A s fin (its.zip jts) (pV ds es)
 |[],es,xs,ys,its,jts,A,fin,c,p1,p2,r1,r2,v1,v2,hu,hf=>by
  simp only[RepL] at r1;subst r1;cases v1;subst hf;rw[aIh];cases es with
  |nil=>exact .nil
  |cons e es=>
   have:pV [] (e::es)=decide (([]:List D).length<(e::es).length):=by simp[pV]
   rw[this];exact .nil
 |d::ds,[],xs,ys,its,jts,A,fin,c,p1,p2,r1,r2,v1,v2,hu,hf=>by
  simp only[RepL] at r2;subst r2;cases v2;subst hf;rw[aGV];have:pV (d::ds) []=decide ((d::ds).length<([]:List D).length):=by simp[pV]
  rw[this];exact .nil
 |d::ds,e::es,xs,ys,its,jts,A,fin,c,p1,p2,r1,r2,v1,v2,hu,hf=>by
  obtain⟨x,xs,rfl,a1,r1⟩:=r1.uncons;obtain⟨y,ys,rfl,a2,r2⟩:=r2.uncons;simp only[plL,bM] at p1 p2;simp only[xW,bM] at c;simp only[jK] at hu;cases v1 with
  |cons q1 v1=>
   cases v2 with
   |cons q2 v2=>
    rw[eR];have he:=aAV (A:=A.in1) hok d p1.1 p2.1 a1 a2 q1 q2 (by show A.units+1+dep d<AQ;omega);simp only[pV]
    by_cases z:deq d e=true
    ·rw[if_pos z];rw[z] at he;exact .eq he (aCG hok ds c.2 p1.2 p2.2 r1 r2 v1 v2 (by omega) (by rw[hf];simp))
    ·rw[if_neg z];rw[tY.mpr z] at he;exact .lt he (aId (A:=A.in1) hok d c.1 p1.1 p2.1 a1 a2 q1 q2 (by show A.units+1+dep d<AQ;omega))
end
end
section
variable {prog:AG}{w:AL}{A:BR}{E:BO->BP->Prop}{s:BP}
open HT
end
noncomputable def kY(ws:List Int):List Key:=ws.map Sum.inl
theorem kY_D(ws:List Int):D.tup ((kY ws).map kD)=bG ws:=by unfold kY bG;rw[aV];rfl
theorem rC(a:List Nat):(bY a).length=a.length:=by unfold bY;rw[aB]
noncomputable def shp{α β:Type}(n:β)(g:α->β):List Bool->List α->List β
 |[],_=>[]
 |false::m,as=>n::shp n g m as
 |true::m,[]=>n::shp n g m []
 |true::m,a::as=>g a::shp n g m as
def GO(K:aA)(m:List Bool)(l:BQ)(ls:List BQ)(dss:List (List D)):V->Hp->Hp->Prop:=λv F H=>v=.ref l/\H l=some (.lst (shp V.non V.ref m ls))/\InD K F H ls dss
structure Exc(h0 h:BS)(H:Hp)(a T:BQ)(cls:BO):Prop where
 free:H a=none
 new:h0.get? a=none
 freeT:H T=none
 newT:h0.get? T=none
 obj:∃oe vs oT ts a0,h.get? a=some oe/\(oe.cls=cls/\vs[0]? =some a0)/\oe.data=.fields vs/\vs[1]? =some (.ref T)/\T≠a/\h.get? T=some oT/\oT.data=.fields ts/\ts[3]? =some .none
noncomputable def CX1(P:AG)(w:AL)(cls:BO):CXT:=λouter H s E e s'=>∃a T H',e=.ref a/\s'.os=s.os/\AllBare s'.gens/\Un (frs outer) [] H H' s.heap s'.heap/\HOk P w H' s'.heap/\Exc s.heap s'.heap H' a T cls/\E (.ref a) (some a) H'
end DL
namespace DL
open PySem PySem.Spec PySem.Calls PySem.W PyProof.Rows Builtin Builtin.Getset_descriptor Builtin.ObjectAttr
section
variable {prog:AG}{w:AL}{A:BR}{E:BO->BP->Prop}{h:BS}{g:Array GenState}{d:Drawn}{t:Nat}{os:OsState}{a C:BQ}{K:Frag}
structure XCls(K:Frag)(C:BQ):Prop where
 ha:findIn K (.ref C) "__class__"=some (some (.builtin "object.__class__"))
 hm:mroIn K C (.type "object")=some true
 hs:subIn K (.ref C) (.type "BaseException")=some true
 hg:findIn K (.ref C) "__getattribute__"=some (some (.builtin "BaseException.__getattribute__"))
 hn:findIn K (.ref C) "__getattr__"=some none
 hc:(clsIn K C).isSome=true
end
end DL
namespace DL
open PySem PySem.Spec PyProof.Rows L2
noncomputable def bmVE:List BO:=[.type "ValueError",.type "Exception",.type "BaseException",.type "object"]
section
variable {X:Cx}{sd:List Slot}{e a b c:Expr}{es:List Expr}{pos:Pos}{d:D}{ds:List D}{E:jR}
structure PEx(X:Cx)(sd:List Slot)(e:Expr):Prop where
 run:∀ (σ:St) (F H:Hp),StF X.K X.B₀ F H σ sd->wE X e σ H (λ_ _=>False)
noncomputable def spX(K:aA)(n:Nat)(C:List D->Prop):Sp:=λvs H _ E=>vs.length=n/\Smp H/\∃ds,RepL K H ds vs/\C ds/\∀a H',Same H H'->Smp H'->E (.ref a) (some a) H'
structure aON(P:AG)(w:AL)(K:aA)(mg:Str->Option BO)(base:BS)(x:Str)(k n:Nat)(C:List D->Prop)(cls:BO)(dvs:List V)(dws:List BO):Prop where
 ex:∃ (f:BQ) (fd:AY) (ps:List Str),mg x=some (.ref f)/\eE K (.ref f)=true/\Binds K fd ps dws/\Vals dvs dws/\FnOk P w K mg base (CX1 P w cls) k f fd ps (spX K n C)
end
section
variable {X:Cx}{pins:List (BQ×BZ)}{σ:St}{F H:Hp}{s:BP}{sd:List Slot}{a T:BQ}{cls:BO}{M:Model}{A:BR}{Ex:BO->BP->Prop}
structure Held(X:Cx)(pins:List (BQ×BZ))(σ:St)(H:Hp)(s:BP)(a T:BQ)(cls fl:BO):Prop where
 inv:Inv X pins σ H s
 fa:H a=none/\X.s₀.heap.get? a=none/\∀p∈X.pn++pins,p.1≠a
 fT:H T=none/\X.s₀.heap.get? T=none/\∀p∈X.pn++pins,p.1≠T
 obj:∃oe vs oT ts a0,s.heap.get? a=some oe/\(oe.cls=cls/\vs[0]? =some a0)/\oe.data=.fields vs/\vs[1]? =some (.ref T)/\T≠a/\s.heap.get? T=some oT/\oT.data=.fields ts/\ts[3]? =some fl
end
section
variable {X:Cx}{sd:List Slot}{e a b c:Expr}{es:List Expr}{pos:Pos}{d:D}{ds:List D}{E:jR}
noncomputable def spS(K:aA)(n:Nat)(G:V->Hp->Prop)(C:List D->Prop):Sp:=λvs H _ E=>vs.length=n/\Smp H/\∃v us ds,vs=v::us/\G v H/\RepL K H ds us/\C ds/\∀a H',Same H H'->Smp H'->E (.ref a) (some a) H'
structure aOM(P:AG)(w:AL)(K:aA)(mg:Str->Option BO)(base:BS)(x:Str)(k n:Nat)(G:V->Hp->Prop)(C:List D->Prop)(cls:BO):Prop where
 ex:∃ (f:BQ) (fd:AY) (ps:List Str),mg x=some (.ref f)/\eE K (.ref f)=true/\Binds K fd ps []/\FnOk P w K mg base (CX1 P w cls) k f fd ps (spS K n G C)
structure PSh(X:Cx)(sd:List Slot)(e:Expr)(G:V->Hp->Prop):Prop where
 run:∀ (σ:St) (F H:Hp),StF X.K X.B₀ F H σ sd->wE X e σ H λv H'=>∃F',StF X.K X.B₀ F' H' σ sd/\Same F F'/\G v F'
end
section
variable {X:Cx}{pins:List (BQ×BZ)}{σ:St}{F H:Hp}{s s':BP}{sd:List Slot}{cls:BO}{e tg iter:Expr}{es:List Expr}{pos:Pos}{ds:List D}{Old:BQ->Prop}{E:jR}
structure ExcO(Old:BQ->Prop)(h:BS)(H:Hp)(a T:BQ)(cls:BO):Prop where
 free:H a=none
 new:¬ Old a
 freeT:H T=none
 newT:¬ Old T
 obj:∃oe vs oT ts a0,h.get? a=some oe/\(oe.cls=cls/\vs[0]? =some a0)/\oe.data=.fields vs/\vs[1]? =some (.ref T)/\T≠a/\h.get? T=some oT/\oT.data=.fields ts/\ts[3]? =some .none
def Ent(X:Cx):BQ->Prop:=λb=>∃o,X.s₀.heap.get? b=some o
end
def GI(K:aA)(l:BQ)(ks:List Key)(ls:List BQ)(dss:List (List D)):V->Hp->Hp->Prop:=λv F H=>v=.ref l/\H l=some (.dK (ks.zip (ls.map V.ref)))/\ks.length=ls.length/\InD K F H ls dss
def GW(K:aA)(m:List Bool)(l0 l:BQ)(ls:List BQ)(dss:List (List D)):V->Hp->Hp->Prop:=λv F H=>v=.ref l0/\H l0=some (.lst [.ref l,.int 0])/\H l=some (.lst (shp V.non V.ref m ls))/\InD K F H ls dss
noncomputable abbrev Wnt:=List (Option Int)
noncomputable abbrev Exs:=List (List Int×Wnt)
noncomputable def bw:Option Int->Option Int->Option (Option Int)
 |none,b=>some b
 |some x,none=>some (some x)
 |some x,some y=>if y=x then some (some x) else none
structure EOk(p:Int×Int)(E:Exs):Prop where
 fil:∀x∈E,x.1∈bV p
 len:∀x∈E,x.2.length=p.2.toNat
 wd:∀x∈E,∀b w,x.2.getD b none=some w->0<=w/\w<((2^p.1.toNat:Nat):Int)
structure GOk(n:Nat)(E:Exs)(t:Nat)(G:List (List Int)×List Wnt):Prop where
 nd:G.1.Nodup
 ln:G.1.length=G.2.length
 mem:∀f,f∈G.1↔∃i,i<t/\(E.getD i ([],[])).1=f
 wl:∀u∈G.2,u.length=n
 has:∀i,i<t->∀b w,b<n->(E.getD i ([],[])).2.getD b none=some w->(G.2.getD (G.1.idxOf (E.getD i ([],[])).1) []).getD b none=some w
 from_:∀f∈G.1,∀b w,b<n->(G.2.getD (G.1.idxOf f) []).getD b none=some w->∃i,i<t/\(E.getD i ([],[])).1=f/\(E.getD i ([],[])).2.getD b none=some w
structure Xk34(K:aA)(mg:Str->Option BO)(CN:BQ):Prop where
 xc:XCls K CN
 ex:PySem.W.excIn K CN bmVE "ValueError.__new__"=true
 le:∃C:BQ,mg "LeastError"=some (.ref C)/\PySem.W.exmOne K (.ref CN) (.ref C)=some true
 nw:mg "NoWish"=some (.ref CN)/\fQ K (.ref CN) (.ref CN)=some true
 ve:mg "ValueError"=none/\fQ K (.ref CN) (.type "ValueError")=some true
 nc:∃C:BQ,mg "NoChange"=some (.ref C)/\fQ K (.ref CN) (.ref C)=some false
 nt:∃C:BQ,mg "NoText"=some (.ref C)/\fQ K (.ref CN) (.ref C)=some false
 nd:∃C:BQ,mg "NoWindow"=some (.ref C)/\fQ K (.ref CN) (.ref C)=some false
 tg:∃C:BQ,mg "TooGreat"=some (.ref C)/\fQ K (.ref CN) (.ref C)=some false
structure DOk(L:List (Nat×Int))(T:List Nat×List (List Int)):Prop where
 nd:T.1.Nodup
 ln:T.1.length=T.2.length
 mem:∀b,b∈T.1↔∃w,(b,w)∈L
 val:∀b∈T.1,∀w,w∈T.2.getD (T.1.idxOf b) []↔(b,w)∈L
 le:T.2.length<=L.length/\∀l∈T.2,l.length<=L.length
noncomputable abbrev Ch:=Nat×Nat×List Nat
noncomputable def wcQ(row:List Nat)(c:Ch):List Nat:=row.take c.1++c.2.2++row.drop (c.1+c.2.1)
noncomputable def aPa(L:List SK)(row:List Nat):Int:=aKB (aKA L row)
noncomputable def aPh(p:Int×Int)(L:List SK)(row:List Nat)(o:Option (List Nat)):List (List Int):=(bV p).map λws=>match o with
 |none=>aNA p L row ws
 |some l=>l.map λj=>(aNA p L row ws).getD j 0
noncomputable def winB(row:List Nat)(c:Ch):Bool:=decide (1<=c.2.1/\c.1+c.2.1<=row.length)
noncomputable def hoQ(p:Int×Int)(L:List SK)(row:List Nat)(c:Ch)(o:Option (List Nat)):Bool:=winB row c&&(decide (aPa L c.2.2<aPa L ((row.drop c.1).take c.2.1))&&decide (aPh p L (wcQ row c) o=aPh p L row o))
def gL(L:List SK)(row:List Nat):Prop:=∀t∈row,t<L.length
structure Chn(p:Int×Int)(L:List SK)(o:Option (List Nat))(row:List Nat)(cs:List Ch)(rs:List (List Nat)):Prop where
 len:rs.length=cs.length+1
 hd:rs.getD 0 []=row
 st:∀i,i<cs.length->hoQ p L (rs.getD i []) (cs.getD i (0,0,[])) o=true/\rs.getD (i+1) []=wcQ (rs.getD i []) (cs.getD i (0,0,[]))
 ok:∀r∈rs,gL L r/\r.length<=8+9*cs.length
 pc:∀c∈cs,gL L c.2.2/\c.2.2.length<=9
theorem aFE{G K:Prop}(h:K->G)(k:K):G:=h k
section
variable {prog:AG}{w:AL}{κ:Type}[DecidableEq κ](knd:KeyKind prog w κ)
variable {knd}
variable {A:BR}{E:BO->BP->Prop}{s:BP}
end
structure HK(P:AG)(w:AL)(κ:Type)[DecidableEq κ] where
 kind:HeapKind P w κ
 rel:Hp->κ->BQ->Prop
 mono:∀ {F F':Hp}{k:κ}{a:BQ},Same F F'->rel F k a->rel F' k a
 ok:∀ {H:Hp}{h:BS}{k:κ}{a:BQ},HOk P w H h->rel H k a->kind.is h k a
 room:∀ {A:BR},A.units+2<AQ->kind.room A.in1
 dat:κ->D
 key:∀ {K:aA}{F:Hp}{k:κ}{v:V},Rep K F (dat k) v->∃a,v=.ref a/\rel F k a
 back:∀ {K:aA}{F:Hp}{k:κ}{a:BQ},rel F k a->Rep K F (dat k) (.ref a)
theorem wY{K:aA}{F:Hp}:∀k:List Key,RepL K F (k.map kD) (k.map kV)
 |[]=>.nil
 |a::k=>by refine .cons ?_ (wY k);cases a<;>simp only[kD,kV,Rep]
noncomputable def tD(k:List Key):D:=.tup (k.map kD)
noncomputable def hkT(P:AG)(w:AL):HK P w (List Key) where
 kind:=Ar (eY P w)
 rel:=λF k a=>F a=some (.tup (k.map kV))
 mono:=λs h=>s _ _ h
 ok:=λok h=>tJ ok h
 room:=λhu=>BN (by omega)
 dat:=tD
 key:=λr=>by simp only[tD,Rep] at r;obtain⟨a,ys,rfl,ha,rl⟩:=r;rw[oX rl] at ha;exact⟨a,rfl,ha⟩
 back:=λ{K F k a} h=>by simp only[tD,Rep];exact⟨a,_,rfl,h,wY k⟩
inductive R2k(F:Hp):List (List Key)->List V->Prop
 |nil:R2k F [] []
 |cons {k:List Key}{b:BQ}{ks:List (List Key)}{vs:List V}:F b=some (.tup (k.map kV))->R2k F ks vs->R2k F (k::ks) (.ref b::vs)
section
variable {P:AG}{w:AL}{κ:Type}[DecidableEq κ](hk:HK P w κ)
abbrev KG(F:Hp):List (κ×V)->List (κ×BQ×BO)->Prop:=Paired λp q=>p.1=q.1/\hk.rel F p.1 q.2.1/\RelV p.2 q.2.2
def TG(K:aA)(F:Hp)(l:BQ)(o:BZ)(ks:List κ)(ds:List D):Prop:=
 ks.length=ds.length/\ks.length<=AM/\(l==Ao)=false/\ks.Nodup/\∃ (vs:List V) (xs:List (κ×BQ×BO)) (es:Array DictEntry) (ep:Nat),RepL K F ds vs/\KG hk F (ks.zip vs) xs/\o.ExactDict/\o.data=.dict es ep/\es.toList=xs.map (entryOfKey hk.kind)/\(xs.map (·.1)).Nodup
variable {hk}{K:aA}{F F' H:Hp}{l:BQ}{o:BZ}{ks:List κ}{ds:List D}
theorem KG.mono{kvs:List (κ×V)}{xs:List (κ×BQ×BO)}(s:Same F F')(r:KG hk F kvs xs):KG hk F' kvs xs:=Paired.mapP r λ_ _ z=>⟨z.1,hk.mono s z.2.1,z.2.2⟩
theorem TG.mono(s:Same F F')(t:TG hk K F l o ks ds):TG hk K F' l o ks ds:=by obtain⟨h1,h2,h3,h4,vs,xs,es,ep,r,g,q⟩:=t;exact⟨h1,h2,h3,h4,vs,xs,es,ep,r.mono s,g.mono s,q⟩
theorem KG.all{h:BS}(ok:HOk P w H h){l:List (κ×V)}{m:List (κ×BQ×BO)}(q:KG hk H l m):∀x∈m,hk.kind.is h x.1 x.2.1:=by
 induction q with
 |nil=>intro x hx;exact nomatch hx
 |@cons p q ps qs hq t ih=>
  intro x hx
  rcases aQ.mp hx with e|hx
  ·subst e;exact hk.ok ok (by rw[<-hq.1];exact hq.2.1)
  ·exact ih x hx
theorem KG.val{kvs:List (κ×V)}{xs:List (κ×BQ×BO)}(r:KG hk F kvs xs)(k:κ):RelO (kU kvs k) ((atKey xs k).map (·.2)):=by
 induction r with
 |nil=>exact True.intro
 |@cons p q ps qs h t ih=>
  obtain⟨h1,_,h2⟩:=h
  by_cases e:p.1=k
  ·have e':q.1=k:=h1.symm.trans e;have b:atKey (q::qs) k=some q.2:=by simp[atKey,jZ,e']
   rw[nJ e,b];exact h2
  ·have e':¬ q.1=k:=λz=>e (h1.trans z)
   have b:atKey (q::qs) k=atKey qs k:=by simp[atKey,jZ,e']
   rw[kS e,b];exact ih
theorem KG.new{kvs:List (κ×V)}{xs:List (κ×BQ×BO)}(r:KG hk F kvs xs){k:κ}(hn:kU kvs k=none){b:BQ}{y:V}{u:BO}(hb:hk.rel F k b)(ry:RelV y u):KG hk F (kvs++[(k,y)]) (storedH xs k b u):=by
 have e:atKey xs k=none:=by
  have:=r.val k;rw[hn] at this;cases h:atKey xs k with
  |none=>rfl
  |some z=>rw[h] at this;cases this
 rw[storedH_new e];exact Paired.snoc r ⟨rfl,hb,ry⟩
theorem tH{k:κ}:∀ {ks:List κ}{xs:List V},k∉ks->kU (ks.zip xs) k=none
 |[],_,_=>rfl
 |_::_,[],_=>rfl
 |j::js,x::xs,h=>by rw[eR,kS (p:=(j,x)) (k:=k) (λe=>h ((show j=k from e)▸aH))];exact tH λz=>h (aI _ z)
theorem zZ:∀ {ks:List κ}{xs:List V}{n:Nat}{k:κ}{x:V},ks.Nodup->ks[n]? =some k->xs[n]? =some x->kU (ks.zip xs) k=some x
 |[],_,n,_,_,_,h,_=>by simp at h
 |_::_,[],n,_,_,_,_,h=>by simp at h
 |j::js,y::ys,0,k,x,nd,h1,h2=>by
  have e1:j=k:=by simpa using h1
  have e2:y=x:=by simpa using h2
  rw[eR,nJ e1,e2]
 |j::js,y::ys,n+1,k,x,nd,h1,h2=>by
  obtain⟨nj,nd⟩:=cF.mp nd;have h1:js[n]? =some k:=by simpa using h1
  have h2:ys[n]? =some x:=by simpa using h2
  rw[eR,kS (p:=(j,y)) (k:=k) (λe=>nj ((show j=k from e)▸bD h1))];exact zZ nd h1 h2
theorem aEg{k:κ}{ks:List κ}{xs:List V}(nd:ks.Nodup)(hl:ks.length=xs.length)(h:k∈ks):(kU (ks.zip xs) k).isSome=true:=by obtain⟨n,hn,rfl⟩:=eZ h;rw[zZ (n:=n) (x:=xs[n]'(by omega)) nd (by simp[hn]) (by simp[show n<xs.length by omega])];rfl
theorem TG.dict{h:BS}(ok:HOk P w H h)(s:Same F H)(hl:H l=some (exO l o))(t:TG hk K F l o ks ds):∃ (vs:List V) (xs:List (κ×BQ×BO)),RepL K F ds vs/\KG hk F (ks.zip vs) xs/\h.DictOfH hk.kind l xs/\xs.length<=AM/\(∀k,(atKey xs k).isSome=decide (k∈ks)):=by
 obtain⟨h1,h2,h3,h4,vs,xs,es,ep,r,g,q1,q2,q3,q4⟩:=t;have ho:h.get? l=some o:=(ok l _ hl).1;refine⟨vs,xs,r,g,⟨o,es,ep,ho,q1,q2,q3,KG.all ok (g.mono s),q4⟩, ?_,λk=> ?_⟩
 ·rw[<-Paired.length g,lM,r.len,<-h1,pE];exact h2
 ·have:=(g.val k).isSome_eq;rw[aFn] at this;rw[<-this]
  by_cases e:k∈ks
  ·rw[decide_eq_true e];exact aEg h4 (by rw[r.len,h1]) e
  ·rw[decide_eq_false e,tH e];rfl
end
section
variable {P:AG}{w:AL}{κ:Type}[DecidableEq κ]
def GG(hk:HK P w κ)(K:aA)(l:BQ)(ks:List κ)(ds:List D):V->Hp->Hp->Prop:=λv F H=>v=.ref l/\∃o,H l=some (exO l o)/\TG hk K F l o ks ds
noncomputable def oG(hk:HK P w κ)(K:aA)(l:BQ)(ks:List κ)(ds:List D):Slot:=.ox [l] (GG hk K l ks ds)
noncomputable def gD(hk:HK P w κ)(K:aA)(ks:List κ)(ds:List D):D:=.any λv F=>∃l o,v=.ref l/\F l=some (exO l o)/\TG hk K F l o ks ds
variable {hk:HK P w κ}{K:aA}{H₀ F H:Hp}{σ:St}{sd:List Slot}{i:Nat}{l:BQ}{ks:List κ}{ds:List D}{o:BZ}
theorem TG.cell(t:TG hk K F l o ks ds):∀v,o.data≠ .cell v:=λv z=>by obtain⟨_,_,_,_,_,_,_,_,_,_,_,q,_⟩:=t;rw[q] at z;cases z
theorem xD(S:StF K H₀ F H σ sd)(hs:sd[i]? =some (oG hk K l ks ds)):σ[i]? =some (some (.ref l))/\F l=none/\∃o,H l=some (exO l o)/\TG hk K F l o ks ds:=by
 obtain⟨o,h1,v,h2,h3,h4⟩:=S.slots.get hs;obtain⟨e,ob,a,b⟩:=h4 F H (Same.refl _) λ_ _ _ q=>q
 subst e h2;exact⟨h1,(h3 l (cU l)).1,ob,a,b⟩
theorem aLj(hF:F l=none)(h1:H l=some (exO l o))(t:TG hk K F l o ks ds):iT K F H (oG hk K l ks ds) (some (.ref l)):=
 ⟨.ref l,rfl,fun a ha=>by
  rw[aJ.mp ha]
  exact⟨hF,_,h1,o,rfl,t.cell⟩,λF' H' s k=>⟨rfl,o,k l (cU l) _ h1,t.mono s⟩⟩
theorem gD_rep{v:V}:Rep K F (gD hk K ks ds) v↔∃l o,v=.ref l/\F l=some (exO l o)/\TG hk K F l o ks ds:=by
 simp only[gD,Rep]
 constructor
 ·exact λh=>h.2 F (Same.refl _)
 ·rintro⟨l,o,rfl,e,t⟩;exact⟨⟨l,rfl⟩,λF' s=>⟨l,o,rfl,s _ _ e,t.mono s⟩⟩
end
section
variable {X:Cx}{sd:List Slot}{e a b c tg iter:Expr}{es:List Expr}{pos:Pos}{d:D}{ds:List D}{κ:Type}[DecidableEq κ]{hk:HK X.prog X.w κ}{ks:List κ}{k:κ}{E:jR}{l:BQ}
theorem aBl(hk:HK X.prog X.w κ)(i:Nat){x:Str}{p p2:Pos}(hN:X.N.Nodup)(hi:X.N[i]? =some x)(hx:Loc X.env.scope x)(hE:∀l,E.nx (sd.set i (oG hk X.K l [] [])))(hs:Ak (.Dict [] [] p2) (some (.Name x p)) pos.line X.env=pure false:=by rfl)
  (hf:X.fn x=true\/X.env.scope.names.lookup x=some .local:=by first|exact .inl rfl|exact .inr rfl|assumption):PSd1 X sd (.Assign [.Name x p] (.Dict [] [] p2) pos) E:=.mk λσ F H S=>
 (qR hN hi hx aBu hs hf).to λq hq hm=>by
  have fp:F q=none:=S.sub.free hq
  have no:q∉cE sd:=λhl=>by obtain⟨_,ob,h,_⟩:=S.slots.owns hl;rw[hq] at h;cases h
  have S1:StF X.K X.B₀ F (upd H q (exO q aFz)) σ sd:=by
   refine⟨S.base,λb u e=> ?_,nM S.smp q,S.slots.mono (Same.refl _) λl hl=> ?_,S.nd⟩
   ·rw[bO (cH e fp)];exact S.sub _ _ e
   ·obtain⟨n,ys,y,_⟩:=S.slots.owns hl;have hne:l≠q:=cH y hq;exact⟨n,λys e=>by rw[bO hne];exact e⟩
  refine⟨_,F,S1.setT i (aLj (hk:=hk) (K:=X.K) (ks:=[]) (ds:=[]) fp cD ⟨rfl,bS _,hm,eQ,[],[], #[],0,.nil,.nil,⟨rfl,rfl,rfl⟩,rfl,rfl,eQ⟩) (by simp) λa ha=> ?_,Same.refl _,hE q⟩;rw[aJ.mp ha];exact no
theorem aBF(i:Nat){x:Str}{p p2:Pos}(hu:X.A.units+2<AQ)(hs:sd[i]? =some (oG hk X.K l ks ds))(hx:PE X (.Name x p) (lH i))(h:PEd X sd e (.val d))(hb:PEd X sd b (.val (hk.dat k)))(hnk:k∉ks)(hl:ds.length<=1000)(hE:E.nx (sd.set i (oG hk X.K l (ks++[k]) (ds++[d]))))
  (hsw:Ak e (some (.Subscript (.Name x p) b p2)) pos.line X.env=pure false:=by rfl):PSd1 X sd (.Assign [.Subscript (.Name x p) b p2] e pos) E:=.mk λσ F H S pins s I=>by
 refine wpAny_Assign_Subscript (thn (h σ F H S pins s I) λr s1 ⟨v,H1,I1,rv,F1,S1,sF1,q1⟩=> ?_) hsw;obtain⟨h1,_⟩:=xD S1 hs;refine thn (hx pins s1 σ H1 (λv H2=>v=.ref l/\H2=H1) I1 ⟨.ref l,h1,rfl,rfl⟩) λu s2 ⟨y,H2,I2,ry,e1,e2⟩=> ?_
 subst e1 e2;obtain rfl:u=Value.ref l:=ry;refine thn (hb σ F1 H2 S1 pins s2 I2) λiv s3 ⟨y,H3,I3,ry,F3,S3,sF3,q3⟩=> ?_
 obtain⟨g1,g2,o,g3,t⟩:=xD S3 hs;obtain⟨ad,rfl,ha⟩:=hk.key q3;obtain rfl:iv=Value.ref ad:=ry;obtain⟨vs,xs,r1,kg,dd,hz,hin⟩:=t.dict I3.hok S3.sub g3;obtain⟨t1,t2,t3,t4,_⟩:=t;refine wpAny_setItem_heap (hsz:=hz) (hk.room hu) (hk.ok I3.hok (hk.mono S3.sub ha)) dd λh' dd' hsm=> ?_
 obtain⟨q,es',ep',hq,u2,u3,u4,_,u5⟩:=dd';have I4:=uS (t':=s3.toks+hk.kind.draws k) I3 (ob:=exO l q) (by rw[g3];exact True.intro) hsm ⟨q,hq⟩ (vF hq);have lz:ks.length=vs.length:=by rw[t1,r1.len]
 have kg':=kg.new (tH hnk) ha rv;rw[<-sV lz] at kg'
 have t':TG hk X.K F3 l q (ks++[k]) (ds++[d]):=⟨by rw [bB,bB,t1]; rfl,by
  rw[bB,t1];have:=fX hl;show ds.length+1<=AM
  omega,t3,bJ.mpr ⟨t4,by simp,λa ha b hb e=>hnk (by rw[<-aJ.mp hb,<-e];exact ha)⟩,vs++[v],_,es',ep',r1.app (.one (Rep.mono sF3 q1)),kg',u2,u3,u4,u5⟩
 refine⟨σ,_,I4,_,F3,S3.reT (z':=oG hk X.K l (ks++[k]) (ds++[d])) hs g1 (λb ob hb q=> ?_) (nM S3.smp l) (aLj g2 cD t') (show[l].Nodup by simp) λa ha=>.inl ha,sF1.trans sF3,hE⟩;rw[bO (show b≠l from λz=>hb (z▸cU l))];exact q
theorem aFY(i:Nat){sts:List BU}(hs:sd[i]? =some (oG hk X.K l ks ds))(h:PSd X (sd.set i (.val (gD hk X.K ks ds))) sts E):PSd X sd sts E:=.mk λσ F H S=>by
 obtain⟨h1,h2,o,h3,t⟩:=xD S hs;have S0:=S.le (iF sd i);have no:l∉cE (sd.set i .un):=λhb=>jD S.nd hs (show l∈[l] from cU l) hb
 obtain⟨S1,s1⟩:=S0.inN (l:=l) (ls:=[]) (λa ha=>by rw[aJ.mp ha];exact h2) λa ha=>by rw[aJ.mp ha];exact no
 have f1:(inF F H [l]) l=some (exO l o):=by rw[aHF aH];exact h3
 have S2:=S1.set (d:=gD hk X.K ks ds) (v:=.ref l) i (gD_rep.mpr ⟨l,o,rfl,f1,t.mono s1⟩);rw[kC,lQ h1] at S2;exact aHW s1 (h σ _ H S2)
structure PDc(X:Cx)(sd:List Slot)(e:Expr){κ:Type}[DecidableEq κ](hk:HK X.prog X.w κ)(ks:List κ)(ds:List D):Prop where
 get:∀ (σ:St) (F H:Hp),StF X.K X.B₀ F H σ sd->wE X e σ H λv H1=>∃F1 l,StF X.K X.B₀ F1 H1 σ sd/\Same F F1/\v=.ref l/\∀F2 H2,StF X.K X.B₀ F2 H2 σ sd->Same F1 F2->∃o,H2 l=some (exO l o)/\TG hk X.K F2 l o ks ds
theorem aKq(i:Nat){x:Str}{p:Pos}(hs:sd[i]? =some (oG hk X.K l ks ds))(hx:PE X (.Name x p) (lH i)):PDc X sd (.Name x p) hk ks ds:=⟨fun σ F H S=>hx.to (by
 obtain⟨h1,_⟩:=xD S hs
 exact⟨.ref l,h1,F,l,S,Same.refl _,rfl,λF2 H2 S2 _=>(xD S2 hs).2.2⟩)⟩
theorem aIZ(h:PEd X sd e (.val (gD hk X.K ks ds))):PDc X sd e hk ks ds:=⟨fun σ F H S=>(h σ F H S).imp fun v H1 ⟨F1,S1,s1,q1⟩=>by
 obtain⟨l,o,rfl,e,t⟩:=gD_rep.mp q1
 exact⟨F1,l,S1,s1,rfl,λF2 H2 S2 s2=>⟨o,S2.sub _ _ (s2 _ _ e),t.mono s2⟩⟩⟩
noncomputable def rIn(hk:HK X.prog X.w κ)(f:Bool->Bool):R2:=λx y H Q=>∃ (F:Hp) (ad l:BQ) (o:BZ) (k:κ) (ks:List κ) (ds:List D),x=.ref ad/\y=.ref l/\Same F H/\hk.rel F k ad/\H l=some (exO l o)/\TG hk X.K F l o ks ds/\X.A.units+2<AQ/\Q (.bl (f (decide (k∈ks)))) H
theorem aJB:OpR X (AZ .NotIn) (rIn hk (!·)):=by intro pins s σ H x y v u Q I rx ry h;obtain⟨F,ad,l,o,k,ks,ds,rfl,rfl,sF,ha,hl,t,hu,q⟩:=h;obtain rfl:v=Value.ref ad:=rx;obtain rfl:u=Value.ref l:=ry;obtain⟨vs,xs,_,_,dd,_,hin⟩:=t.dict I.hok sF hl;refine wpAny_notIn_heap (hk.room hu) (hk.ok I.hok (hk.mono sF ha)) t.2.2.1 dd ⟨.bl (!decide (k∈ks)),H,I.tok _, ?_,q⟩;show Value.bool _=Value.bool _;rw[hin]
theorem aGK(hu:X.A.units+2<AQ)(ha:PEd X sd a (.val (hk.dat k)))(hb:PDc X sd b hk ks ds)(hm:Ag .NotIn b=false:=by with_unfolding_all rfl):PTd X sd (.Compare a [.NotIn] [b] pos) (!decide (k∈ks)):=.mk λσ F H S=>
 (aAr (aJB (hk:=hk)) gR gR hm).to ((ha σ F H S).imp fun v H1 ⟨F1,S1,s1,q1⟩=>(hb.get σ F1 H1 S1).imp fun u H2 ⟨F2,l,S2,s2,eu,g⟩=>by
  obtain⟨ad,rfl,hr⟩:=hk.key q1;obtain⟨o,g1,g2⟩:=g F2 H2 S2 (Same.refl _)
  exact⟨F2,ad,l,o,k,ks,ds,rfl,eu,S2.sub,hk.mono s2 hr,g1,g2,hu,_,rfl,rfl,F2,S2,s1.trans s2⟩)
theorem aKb{n:Nat}(hu:X.A.units+2<AQ)(ha:PDc X sd a hk ks ds)(hb:PEd X sd b (.val (hk.dat k)))(hkn:ks[n]? =some k)(hd:ds[n]? =some d)(hsl:aPe b):PEd X sd (.Subscript a b pos) (.val d):=.mk λσ F H S pins s I=>by
 refine aKd PySem.F.slot_dict_getitem.lookup hsl (thn (ha.get σ F H S pins s I) λu s1 ⟨y,H1,I1,ry,F1,l,S1,s1',ey,g⟩=> ?_);subst ey;obtain rfl:u=Value.ref l:=ry;refine thn (hb σ F1 H1 S1 pins s1 I1) λiv s2 ⟨y,H2,I2,ry,F2,S2,sF,q2⟩=> ?_
 obtain⟨o,g1,t⟩:=g F2 H2 S2 sF;obtain⟨ad,rfl,hr⟩:=hk.key q2;obtain rfl:iv=Value.ref ad:=ry;obtain⟨vs,xs,rl,kg,dd,_,_⟩:=t.dict I2.hok S2.sub g1;obtain⟨v,hv,rv⟩:=rl.get hd;obtain⟨w',hw,rw'⟩:=RelO.some_of (v:=v) (o:=(atKey xs k).map (·.2)) (by rw[<-zZ t.2.2.2.1 hkn hv];exact kg.val k);obtain⟨pr,hp,hp2⟩:=gQ.mp hw;refine⟨dd.typeIs,wpAny_getItem_heap (hk.room hu) (hk.ok I2.hok (hk.mono S2.sub hr)) dd hp ?_⟩;rw[hp2];exact⟨v,H2,I2.tok _,rw',F2,S2,s1'.trans sF,rv⟩
end
section
variable {prog:AG}{w:AL}{A:BR}{E:BO->BP->Prop}{s:BP}{d it:BQ}{od:BZ}{es:Array DictEntry}{ep i:Nat}
theorem rY(g:s.heap.get? d=some od)(c:od.ExactDict):s.TypeIs (.ref d) "dict":=⟨od,g,c.1⟩
theorem aGL{Q:BO->BP->Prop}(sm:(d==Ao)=false)(g:s.heap.get? d=some od)(c:od.ExactDict)(e:od.data=.dict es ep)
  (q:Q (.ref s.heap.objs.size) {s with heap:=s.heap.push {cls:=.type "dict_keyiterator",data:=.fields #[.ref d,.int 0 0,.int es.size 0,.int ep 0]}}):AH (AE prog w) A (pyIter (.ref d)) Q E s:=by
 have ty:=rY g c;refine wpAny_pyIter_slot ty F.slot_dict_iter (AT F.slot_dict_iter ty F.entry_dict_iter (AA ?_) (F.args_dict_iter_1 _));unfold Builtin.Dict.dictSlotNone;refine AA (BF ty (AB (a:=Value.ref d) (AA (m:=Builtin.Dict.showsAll d) ?_)));unfold Builtin.Dict.showsAll;rw[sm,if_neg bN];exact AB (AA (An g e (AA (wpAny_dictEpoch g e (AA (AN (AB ⟨_,rfl,"dict_keyiterator",_,⟨_,aZ _ rfl,rfl⟩,F.slot_dict_keyiterator_next.lookup,q⟩)))))))
theorem aEv{Q:Option BO->BP->Prop}(ki:s.heap.IsKeyIter it d i es.size ep)(g:s.heap.get? d=some od)(e:od.data=.dict es ep)(hi:i<es.size)
  (q:∀h',h'.IsKeyIter it d (i+1) es.size ep->Heap.SameBut it s.heap h'->Q (some es[i].key) {s with heap:=h'}):AH (AE prog w) A (pyNext (.ref it)) Q E s:=by
 have ty:=ki.typeIs;obtain⟨o,g1,c1,f1⟩:=ki;unfold pyNext;refine AA (BL (AS (name:=Str.ofString "__next__") ty F.slot_dict_keyiterator_next (AT F.slot_dict_keyiterator_next ty F.entry_dict_keyiterator_next (AA (AB (AA (AA ?_)))) (F.args_dict_keyiterator_next_1 _))));refine AA (Am ty (AB (AA (wpAny_fieldsOf g1 f1 ?_))));rw[if_neg (by decide)];show AH _ _ (ite ((Value.ref d==Value.none)=true) _ _) _ _ _;rw[if_neg (c:=(Value.ref d==Value.none)=true) (λz=>by cases z)];refine AA (AB (AA (An g e ?_)));rw[if_neg (by simp)];refine AA (AB (AA (wpAny_dictEpoch g e ?_)));rw[if_neg (by simp)];refine AB ?_;have ix:(if(i:Int)<0 then none else es[(i:Int).toNat]?)=some es[i]:=by rw[if_neg (by omega),dE,Array.getElem?_eq_getElem hi]
 simp only[ix]
 have up:(s.heap.update it (Obj.mapFields (·.setIfInBounds 1 (Ax ((i:Int)+1))))).IsKeyIter it d (i+1) es.size ep:=
  ⟨_,dX _ g1 (Obj.isFreed_of_fields (Obj.data_mapFields f1 _)),(Obj.cls_mapFields ..).trans c1,by rw[Obj.data_mapFields f1];simp[Ax]⟩
 refine AA (AA (Am ty (AB (AA (wpAny_isOneOf_keyiter ty (AA (Ay g1 f1 (show(0:Nat)+1<4 by decide) (AA (AV ?_)))))))));refine AA (wpAny_isOneOf_keyiter up.typeIs ?_);exact AB (AB ⟨_,rfl,AB (q _ up (Heap.SameBut.update ..))⟩)
theorem aGF{Q:Option BO->BP->Prop}{hp:BS}(hh:A.handled=none)(sb:Heap.ExtBut it s.heap hp)(q:∀h',Heap.ExtBut it s.heap h'->Q none {s with heap:=h'}):
  AH (AE prog w) A.in1 (newExc (.type "StopIteration") []>>=fun x=>(raiseNew x:Sem Fin)) (fun fin s'=>∃v,fin=Fin.done (Flow.ret v)∧AH (AE prog w) A (pure (some v)) Q E s') (fun e s'=>AH (AE prog w) A (do
   let b <-isInstance e (Value.type "StopIteration")
   if b=true then pure none else throw e) Q E s') {s with heap:=hp}:=by
 refine AA ?_;simp only[newExc,newTuple];refine AA (AN (AA (m:=BI _ _) (wpAny_of_eq (a:=Value.none) (by first|rfl|(simp only[BI];rfl)) (AN ?_ (by size_fits)))) (by size_fits));simp only[raiseNew];refine AA (wpAny_handled ?_);rw[show A.in1.handled=none from hh];refine AA (AB (wpAny_throw ?_));refine AA (wpAny_isInstance (T:="StopIteration") (b:=true) ⟨_,aZ _ rfl,rfl⟩ isSubtype_stop ?_);exact AB (q _ ((sb.push _).push _))
theorem aGQ{Q:Option BO->BP->Prop}(hh:A.handled=none)(ki:s.heap.IsKeyIter it d i es.size ep)(g:s.heap.get? d=some od)(e:od.data=.dict es ep)(hi:es.size<=i)
  (q:∀h',Heap.ExtBut it s.heap h'->Q none {s with heap:=h'}):AH (AE prog w) A (pyNext (.ref it)) Q E s:=by
 have ty:=ki.typeIs;obtain⟨o,g1,c1,f1⟩:=ki;unfold pyNext;refine AA (BL (AS (name:=Str.ofString "__next__") ty F.slot_dict_keyiterator_next (AT F.slot_dict_keyiterator_next ty F.entry_dict_keyiterator_next (AA (AB (AA (AA ?_)))) (F.args_dict_keyiterator_next_1 _))));refine AA (Am ty (AB (AA (wpAny_fieldsOf g1 f1 ?_))));rw[if_neg (by decide)];show AH _ _ (ite ((Value.ref d==Value.none)=true) _ _) _ _ _;rw[if_neg (c:=(Value.ref d==Value.none)=true) (λz=>by cases z)];refine AA (AB (AA (An g e ?_)));rw[if_neg (by simp)];refine AA (AB (AA (wpAny_dictEpoch g e ?_)));rw[if_neg (by simp)];refine AB ?_;have ix:(if(i:Int)<0 then none else es[(i:Int).toNat]?)=none:=by rw[if_neg (by omega),dE,iN hi]
 simp only[ix];refine AA (AA (Am ty (AB (AA (Ay g1 f1 (show(0:Nat)<4 by decide) ?_)))));exact aGF hh (Heap.SameBut.update ..).extBut q
end
section
variable {prog:AG}{w:AL}{A:BR}{E:BO->BP->Prop}{s:BP}{d:BQ}{od:BZ}{es:Array DictEntry}{ep:Nat}
theorem aBL(sm:(d==Ao)=false):MeetsIn prog w (Builtin.«dict.__len__» ⟨[.ref d],[]⟩) (λ_ R s=>∃ (od:BZ) (es:Array DictEntry) (ep:Nat),s.heap.get? d=some od/\od.ExactDict/\od.data=.dict es ep/\R (.ok (.ret (.int es.size s.toks))) {s with toks:=s.toks+1}):=
 .of_wp λA R s ⟨od,es,ep,g,c,e,q⟩=>by refine AA (m:=Builtin.Dict.dictSlotNone "__len__" ⟨[.ref d],[]⟩) ?_;unfold Builtin.Dict.dictSlotNone;refine AA (BF (rY g c) (AB (a:=Value.ref d) (AA (AB (AA (m:=dictSize d) ?_)))));unfold dictSize;exact AA (An g e (AB (AA (wpAny_pendingCount_other sm (wpAny_ret_mkInt (by rw[show((es.size:Nat):Int)+((0:Nat):Int)=(es.size:Int) from Int.add_zero _];exact q))))))
theorem aEc{Q:BO->BP->Prop}(sm:(d==Ao)=false)(g:s.heap.get? d=some od)(c:od.ExactDict)(e:od.data=.dict es ep)(fit:es.size<=AM)(q:∀t t2,Q (.int es.size t) {s with toks:=t2}):AH (AE prog w) A (call (.builtin "len") [.ref d]) Q E s:=by
 have lim:AM=16777216:=Ac;have ty:=rY g c;refine Calls.call_function_entry kind_len plain_len entry_len (args_len1 _) ?_;refine AA (m:=oneArg "len" _) (AB (AA (m:=callSpecial? (.ref d) (Str.ofString "__len__")) (AS (name:=Str.ofString "__len__") ty F.slot_dict_len (call_meetsIn F.slot_dict_len ty F.entry_dict_len (F.args_dict_len_1 _) (aBL sm) ⟨od,es,ep,g,c,e, ?_⟩))));refine AA (AV (AB (AA (BA ?_))));refine wpAny_ite_split (λz=>by omega) λ_=>wpAny_ite_split (λz=>by omega) λ_=> ?_
 exact AA (wpAny_mkInt (AB ⟨_,rfl,q _ _⟩))
end
section
variable {X:Cx}{sd:List Slot}{e:Expr}{pos:Pos}{d:D}{ds:List D}{κ:Type}[DecidableEq κ]{hk:HK X.prog X.w κ}{ks:List κ}
theorem aEZ:mH X (.builtin "len") (λxs H Q=>∃ (l:BQ) (o:BZ) (es:Array DictEntry) (ep:Nat),xs=[.ref l]/\H l=some (exO l o)/\o.ExactDict/\o.data=.dict es ep/\(l==Ao)=false/\es.size<=AM/\Q (.int es.size) H):=by intro pins s σ H xs us Q I r h;obtain⟨l,o,es,ep,rfl,hl,c,e,sm,fit,q⟩:=h;obtain⟨u,rfl,rx⟩:=pA r;cases(show u=Value.ref l from rx);exact aEc sm (I.hok l _ hl).1 c e fit λt t2=>⟨.int es.size,H,I.tok _,⟨_,rfl⟩,q⟩
end
structure LyOk(K:aA)(F H:Hp)(p:Int)(L:Int->List D)(kvs:List (Key×V))(ls:List BQ):Prop where
 live:∃ (lk:List Int) (dss:List (List D)),lk.Nodup/\lk.length=ls.length/\InD K F H ls dss/\(∀k,p<k->kU kvs (.inl k)=kU (lk.zip (ls.map V.ref)) k)/\(∀ (n:Nat) (k:Int),lk[n]? =some k->p<k/\dss[n]? =some (L k))/\∀k,p<k->k∉lk->L k=[]
 cur:(kU kvs (.inl p)=none/\L p=[])\/∃v,kU kvs (.inl p)=some v/\Rep K F (.lst (L p)) v
section
variable {K:aA}{H₀ F F' H H':Hp}{σ:St}{sd:List Slot}{i:Nat}{l:BQ}{p:Int}{L:Int->List D}{ls:List BQ}{kvs:List (Key×V)}
theorem InD.erase:∀ {as:List BQ}{dss:List (List D)} (n:Nat),InD K F H as dss->InD K F H (as.eraseIdx n) (dss.eraseIdx n)
 |[],[],n,h=>by simp;exact h
 |[],_::_,_,h=>h.elim
 |_::_,[],_,h=>h.elim
 |a::as,ds::dss,0,h=>h.2
 |a::as,ds::dss,n+1,h=>⟨h.1,InD.erase n h.2⟩
end
theorem yY{α β:Type}(f:α->β):∀ (l:List α) (n:Nat),(l.map f).eraseIdx n=(l.eraseIdx n).map f
 |[],_=>by simp
 |_::_,0=>rfl
 |a::l,n+1=>by show f a::(l.map f).eraseIdx n=f a::(l.eraseIdx n).map f;rw[yY f l n]
namespace S45
variable {T:Type}[DecidableEq T](n:Nat)(pr:Nat->Int)(beh:Nat->T->T)(t0:T)
noncomputable abbrev Ent(T:Type):=Int×List Nat×T
noncomputable abbrev Lay(T:Type):=Int->List (List Nat×T)
noncomputable def tabQ(row:List Nat):T:=row.foldl (λt k=>beh k t) t0
noncomputable def prQ(row:List Nat):Int:=(row.map pr).sum
theorem tab_snoc(row:List Nat)(k:Nat):tabQ beh t0 (row++[k])=beh k (tabQ beh t0 row):=by unfold tabQ;rw[nN];rfl
theorem pr_snoc(row:List Nat)(k:Nat):prQ pr (row++[k])=prQ pr row+pr k:=by unfold prQ;rw[aP,aKF];simp
noncomputable def put(t:Int)(row:List Nat)(tab:T):Nat->Lay T->Lay T
 |0,ly=>ly
 |k+1,ly=>λj=>if j=t+pr k then put t row tab k ly j++[(row++[k],beh k tab)] else put t row tab k ly j
noncomputable def one(t:Int)(s:List (Ent T)×Lay T)(e:List Nat×T):List (Ent T)×Lay T:=if e.2∉s.1.map (λx=>x.2.2)/\s.1.length<=600 then(s.1++[(t,e.1,e.2)],put pr beh t e.1 e.2 n s.2) else s
noncomputable def lay0:Lay T:=λj=>if j=0 then[([],t0)] else[]
noncomputable def run:Nat->List (Ent T)×Lay T
 |0=>([],lay0 t0)
 |t+1=>((run t).2 t).foldl (one n pr beh t) (run t)
structure Ok(t:Int)(rest:List (List Nat×T))(s:List (Ent T)×Lay T):Prop where
 ent:∀e∈s.1,0<=e.1/\e.1<=t/\e.1=prQ pr e.2.1/\(∀k∈e.2.1,k<n)/\e.2.2=tabQ beh t0 e.2.1
 nd:(s.1.map λx=>x.2.2).Nodup
 ly:∀ (j:Int) (x:List Nat×T),x∈s.2 j->j=prQ pr x.1/\(∀k∈x.1,k<n)/\x.2=tabQ beh t0 x.1/\(x.1=[]\/∃r k,x.1=r++[k]/\(prQ pr r,r,tabQ beh t0 r)∈s.1)
 par:∀ (i:Nat) (e:Ent T),s.1[i]? =some e->(e.2.1=[]/\i=0)\/∃r k i',e.2.1=r++[k]/\i'<i/\s.1[i']? =some (prQ pr r,r,tabQ beh t0 r)
 ch:∀e∈s.1,∀k,k<n->(e.2.1++[k],beh k e.2.2)∈s.2 (e.1+pr k)
 done:∀ (j:Int) (x:List Nat×T),j<=t->x∈s.2 j->(j=t/\x∈rest)\/(∃e∈s.1,e.2.2=x.2/\e.1<=j)\/600<(s.1.filter λe=>decide (e.1<=j)).length
 sub:∀x∈rest,x∈s.2 t
 le:s.1.length<=601
variable {n pr beh t0}
variable (n pr beh)
variable {n pr beh}
end S45
end DL
namespace DL
open PySem PySem.Spec PyProof.Rows L2
section
variable {p:Int×Int}{L:List SK}
noncomputable def jY(p:Int×Int)(q:SQ):List Nat:=(bV p).map λws=>nF p (onQ p q ws)
noncomputable def jL(other one:List Nat):List Nat:=one.map λi=>other.getD i 0
noncomputable def jP(p:Int×Int)(nb:List Nat):List (List Int):=nb.map λi=>(bV p).getD i []
noncomputable def oA(p:Int×Int)(L:List SK)(k:Nat)(t:List (List Int)):List (List Int):=t.map (onQ p (L.getD k AR).1)
noncomputable def prK(L:List SK)(k:Nat):Int:=(L.getD k AR).2
noncomputable def mvD(p:Int×Int)(s:SK):D:=.tup [.int s.2,.tup (bY (jY p s.1))]
def NOk(p:Int×Int)(nb:List Nat):Prop:=nb.length=(bV p).length/\∀i∈nb,i<(bV p).length
theorem aJp(p:Int×Int)(q:SQ):(jY p q).length=(bV p).length:=by unfold jY;rw[aB]
theorem aHX(q:SQ){i:Nat}(hi:i<(bV p).length):(jY p q).getD i 0=nF p (onQ p q ((bV p).getD i [])):=by unfold jY;simp[bR,hi]
theorem aKY(hp:p∈bX){i:Nat}(hi:i<(bV p).length):Fil p ((bV p).getD i []):=kP hp (getD_mem hi)
theorem aMF(hp:p∈bX){q:SQ}(O:qK p q){i:Nat}(hi:i<(bV p).length):(jY p q).getD i 0<(bV p).length:=by rw[aHX q hi];exact(wZ hp (aAq O (aKY hp hi))).2.1
theorem aJb(hp:p∈bX){q:SQ}(O:qK p q){nb:List Nat}(h:NOk p nb):NOk p (jL (jY p q) nb):=by refine⟨by unfold jL;rw[aB];exact h.1,λi hi=> ?_⟩;obtain⟨j,hj,rfl⟩:=aO.mp hi;exact aMF hp O (h.2 j hj)
theorem aFJ(hp:p∈bX){q:SQ}(O:qK p q){nb:List Nat}(h:NOk p nb):jP p (jL (jY p q) nb)=(jP p nb).map (onQ p q):=by
 unfold jP jL;rw[aV,aV];refine cM λi hi=> ?_
 show(bV p).getD ((jY p q).getD i 0) []=onQ p q ((bV p).getD i []);rw[aHX q (h.2 i hi)];exact(wZ hp (aAq O (aKY hp (h.2 i hi)))).2.2
theorem aGC(hp:p∈bX){a b:List Nat}(ha:NOk p a)(hb:NOk p b)(h:jP p a=jP p b):a=b:=by
 refine oK (ha.1.trans hb.1.symm) λi h1 h2=> ?_
 have e:(jP p a)[i]'(by unfold jP;rw[aB];exact h1)=(jP p b)[i]'(by unfold jP;rw[aB];exact h2):=by simp only[h]
 unfold jP at e;rw[fJ,fJ] at e;rw[<-vX hp (ha.2 _ (gY h1)),<-vX hp (hb.2 _ (gY h2)),e]
noncomputable def st0(p:Int×Int):List Nat:=bK (bV p).length
theorem aMI(p:Int×Int):NOk p (st0 p):=⟨by unfold st0;rw[eM],λi hi=>bP.mp hi⟩
theorem aDA(p:Int×Int):jP p (st0 p)=bV p:=by
 unfold jP st0;refine oK (by simp) λi h1 h2=> ?_
 rw[fJ,aGW];simp[bR,h2]
noncomputable def nrQ(p:Int×Int)(L:List SK)(row:List Nat):List Nat:=row.foldl (λnb k=>jL (jY p (L.getD k AR).1) nb) (st0 p)
theorem aAn(row:List Nat)(k:Nat):nrQ p L (row++[k])=jL (jY p (L.getD k AR).1) (nrQ p L row):=by unfold nrQ;rw[nN];rfl
theorem yN(hp:p∈bX)(S:∀s∈L,qK p s.1):∀ {row:List Nat},gL L row->NOk p (nrQ p L row)/\jP p (nrQ p L row)=S45.tabQ (oA p L) (bV p) row:=λ{row}=>by
 have g:∀ (row:List Nat) (nb:List Nat) (t:List (List Int)),NOk p nb->jP p nb=t->gL L row->NOk p (row.foldl (λnb k=>jL (jY p (L.getD k AR).1) nb) nb)/\jP p (row.foldl (λnb k=>jL (jY p (L.getD k AR).1) nb) nb)=row.foldl (λt k=>oA p L k t) t:=λrow=>by
  induction row with
  |nil=>exact λnb t h1 h2 _=>⟨h1,h2⟩
  |cons k row ih=>
   intro nb t h1 h2 h3;have O:qK p (L.getD k AR).1:=S _ (DL.getD_mem (h3 k aH));refine ih _ _ (aJb hp O h1) ?_ λj hj=>h3 j (aI _ hj)
   rw[aFJ hp O h1,h2];rfl
 exact λh=>g row (st0 p) (bV p) (aMI p) (aDA p) h
end
open Classical in
noncomputable def vY(L:List SK)(d:D):SK:=if h:∃s,s∈L/\skD s=d then h.choose else AR
theorem xB{L:List SK}(nd:(L.map λs=>sqD s.1).Nodup){s:SK}(h:s∈L):vY L (skD s)=s:=by
 have ex:∃z,z∈L/\skD z=skD s:=⟨s,h,rfl⟩;unfold vY;rw[dif_pos ex];obtain⟨h1,h2⟩:=ex.choose_spec;generalize ex.choose=z at h1 h2;obtain⟨i,hi,ez⟩:=eZ h1;obtain⟨j,hj,es⟩:=eZ h
 have e:sqD z.1=sqD s.1:=by
  have h2:D.tup [sqD z.1,.int z.2]=D.tup [sqD s.1,.int s.2]:=h2;injection h2 with h2
  exact(aKG.inj h2).1
 have:i=j:=(kZ (i:=i) (j:=j) (h₀:=by rw[aB];exact hi) (h₁:=by rw[aB];exact hj) nd).mp (by rw[fJ,fJ,ez,es,e]);subst this;exact ez.symm.trans es
def aOS:List D->R->Prop:=λds r=>∃p q,p∈bX/\qK p q/\ds=[cS p,sqD q]/\r=.val (.tup (bY (jY p q)))
def aHq:List D->R->Prop:=λds r=>∃p L,p∈bX/\StkOk p L/\(L.map λs=>sqD s.1).Nodup/\ds=[cS p,.lst (L.map skD)]/\r=.own (L.map (mvD p))
def aLo:List D->R->Prop:=λds r=>∃one other:List Nat,one.length<=100/\(∀i∈one,i<other.length)/\ds=[.tup (bY one),.tup (bY other)]/\r=.val (.tup (bY (jL other one)))
def aHi:List D->R->Prop:=λds r=>∃ (B:List (List Int)) (nb:List Nat),nb.length<=100/\(∀i∈nb,i<B.length)/\ds=[.lst (B.map bG),.tup (bY nb)]/\r=.val (.tup ((nb.map λi=>B.getD i []).map bG))
section
variable {X:Cx}{sd:List Slot}{a b:Expr}{pos:Pos}{ds:List D}{κ:Type}[DecidableEq κ]{hk:HK X.prog X.w κ}{ks:List κ}{k:κ}{kk:Bool}
theorem aGS(h:kk=true↔k∈ks):decide (k∈ks)=kk:=by
 cases kk with
 |true=>exact decide_eq_true (h.mp rfl)
 |false=>exact decide_eq_false λz=>by cases h.mpr z
theorem aFI(h:kk=true↔k∈ks)(hu:X.A.units+2<AQ)(ha:PEd X sd a (.val (hk.dat k)))(hb:PDc X sd b hk ks ds)(hm:Ag .NotIn b=false:=by with_unfolding_all rfl):PTd X sd (.Compare a [.NotIn] [b] pos) (!kk):=PTd.cast (aGK hu ha hb hm) (by rw[aGS h])
end
noncomputable abbrev Bk:=S45.Ent (List (List Int))
noncomputable def enD(e:Bk):D:=.tup [.int e.1,.tup (bY e.2.1),.tup (e.2.2.map bG)]
structure BkOk(p:Int×Int)(L:List SK)(b:Int)(B:List Bk):Prop where
 len:B.length<=700
 ent:∀e∈B,e.1=S45.prQ (prK L) e.2.1/\e.1<=b/\gL L e.2.1/\e.2.1.length<=400/\e.2.2=S45.tabQ (oA p L) (bV p) e.2.1
 nd:(B.map λe=>e.2.2).Nodup
noncomputable def mQ(nb:List Nat):List Key:=nb.map λ(i:Nat)=>(Sum.inl (i:Int):Key)
theorem aHA(nb:List Nat):tD (mQ nb)=.tup (bY nb):=by unfold tD mQ bY;rw[aV];rfl
theorem aBt:∀ {a b:List Nat},mQ a=mQ b->a=b
 |[],[],_=>rfl
 |[],_::_,h=>by cases h
 |_::_,[],h=>by cases h
 |x::a,y::b,h=>by
  have h:(Sum.inl (x:Int):Key)::mQ a=(Sum.inl (y:Int):Key)::mQ b:=h;injection h with h1 h2
  have:=Sum.inl.inj h1;rw[aBt h2];congr 1;omega
theorem aMe(L:List SK)(row:List Nat):aKB (aKA L row)=S45.prQ (prK L) row:=by
 unfold S45.prQ aKA prK;generalize row.map (λt=>(L.getD t AR).2)=xs
 have g:∀n:Nat,aKB (xs.take n)=(xs.take n).sum:=λn=>by
  induction n with
  |zero=>rfl
  |succ n ih=>
   by_cases h:n<xs.length
   ·rw[aEf 0 h,aEn,ih,aKF];simp
   ·have e:xs.take (n+1)=xs.take n:=by rw[fV (by omega),fV (by omega)]
    rw[e,ih]
 have:=g xs.length;rw[fM] at this;exact this
section
variable {prog:AG}{w:AL}{A:BR}{E:BO->BP->Prop}{s:BP}{r:BQ}{n:Nat}{t u v:Tok}
theorem aAc{Q:List BO->BP->Prop}(hh:A.handled=none)(ir:IsRange s.heap r 0 (n:Int) 1 t u v)(hn:n<=1000)
  (q:∀ (h':BS) (tk:Nat) (acc:Array BO),(∀b o,s.heap.get? b=some o->h'.get? b=some o)->ItemsOf (λi v=>∃t,v=.int (0+i*1) t) acc n->Q acc.toList {s with heap:=h',toks:=tk}):AH (AE prog w) A (collect (.ref r)) Q E s:=by
 have sz:Builtin.Range.rangeSize 0 (n:Int) 1=(n:Int):=by
  rw[rangeSize_one]
  split<;>omega
 have fin:∀ (h':BS) (tk:Nat) (acc:Array BO) (c':Nat),(∀b o,s.heap.get? b=some o→h'.get? b=some o)→h'.get? s.heap.objs.size=some {cls:= .type "list",dict:=none,data:= .seq acc c',slots:= #[]}→ItemsOf (fun i v=>∃t,v= .int (0+i * 1) t) acc n→AH (AE prog w) A (do
   let o <-load s.heap.objs.size
   match o.data with
   |.seq xs _=>pure xs.toList
   |_=>unsupported "internal:collect") Q E {s with heap:=h',toks:=tk}:=λh' tk acc c' k1 k2 k3=>AA (wpAny_load k2 (AB (q h' tk acc k1 k3)))
 have new:(s.heap.push {cls:=.type "list",data:=.seq ([]:List BO).toArray}).get? s.heap.objs.size=some {cls:=.type "list",data:=.seq #[]}:=aZ _ rfl;have main:=wpAny_extend_range (prog:=prog) (w:=w) (A:=A) (s:={s with heap:=s.heap.push {cls:=.type "list",data:=.seq ([]:List BO).toArray}}) (R:=λ(x:Result) (st:BP)=>∃ (h':BS) (tk:Nat) (acc:Array BO) (c':Nat),x=.ok (.ret (.ref s.heap.objs.size))/\st={s with heap:=h',toks:=tk}/\(∀b o,s.heap.get? b=some o->h'.get? b=some o)/\h'.get? s.heap.objs.size=some {cls:=.type "list",dict:=none,data:=.seq acc c',slots:= #[]}/\ItemsOf (λi v=>∃t,v=.int (0+i*1) t) acc n) hh (aD _ ir) (small_one (by omega) (by omega) (by omega) (by omega)) sz (by omega) s.heap.objs.size (.ref s.heap.objs.size) 0 new λh' tk acc c' k1 k2 k3=>⟨h',tk,acc,c',rfl,rfl,λb o g=>k1 b o (bH (aK g)) (aD _ g),k2,k3⟩
 unfold collect;refine AA (wpAny_runValue (Ai entry_proto_collect' ?_));rw[Around.under_plainId PySem.F.plain_proto_collect _];refine AA (m:=newList []) (AN (AB ⟨BE zK _,Ai entry_list_iadd' ?_⟩));rw[Around.under_plainId zK _];refine Ah main (λz st x=> ?_) λz st x=> ?_
 ·cases z with
  |done f=>obtain⟨h',tk,acc,c',e,rfl,k1,k2,k3⟩:=x;cases e;exact fin h' tk acc c' k1 k2 k3
  |again c1=>refine⟨x.1,BB x.2 λy st y2=> ?_⟩;obtain⟨h',tk,acc,c',rfl,rfl,k1,k2,k3⟩:=y2;exact fin h' tk acc c' k1 k2 k3
 ·obtain⟨_,_,_,_,e,_⟩:=x;cases e
theorem aAa(r:BQ)(n:Nat)(t u v:Tok)(hn:n<=1000):Meets (Builtin.«tuple.__new__» ⟨[.type "tuple",.ref r],[]⟩) (λA R s=>A.handled=none/\IsRange s.heap r 0 (n:Int) 1 t u v/\∀ (h':BS) (tk:Nat) (acc:Array BO),(∀b o,s.heap.get? b=some o->h'.get? b=some o)->ItemsOf (λi v=>∃t,v=.int (0+i*1) t) acc n->R (.ok (.ret (.ref h'.objs.size))) {s with heap:=h'.push {cls:=.type "tuple",data:=.seq acc},toks:=tk}):=
 .of_wp λprog w A R s h=>by
  obtain⟨hp,gn,dr,tk,os⟩:=s;obtain⟨hh,ir,q⟩:=h;have a1:=sub_tuple_self;have a2:=init_tuple_lookup;have a3:=madeHere_tuple;have ty:Shared.TypeIs ⟨hp,gn,dr,tk,os⟩ (.ref r) "range":=⟨_,ir,rfl⟩;have hh1:A.in1.handled=none:=hh
  wp_walk using AutoSeq1.wpAny_loadPart' ir,wpAny_typeOf ty,aAc (s:=⟨hp,gn,dr,tk,os⟩) hh1 ir hn
  intro h' tk' acc k1 k2;refine AA (m:=Builtin.Tuple.tupleExact acc.toList.toArray) ?_;unfold Builtin.Tuple.tupleExact;have e:acc.toList.toArray=acc:=by simp
  rw[e];exact AN (AB ⟨_,rfl,q h' tk' acc k1 k2⟩) (show acc.size<=AM by rw[k2.1];exact cW (fX hn))
theorem xU{Q:BO->BP->Prop}(hh:A.handled=none)(ir:IsRange s.heap r 0 (n:Int) 1 t u v)(hn:n<=1000)
  (q:∀ (h':BS) (tk:Nat) (acc:Array BO),(∀b o,s.heap.get? b=some o->h'.get? b=some o)->ItemsOf (λi v=>∃t,v=.int (0+i*1) t) acc n->Q (.ref h'.objs.size) {s with heap:=h'.push {cls:=.type "tuple",data:=.seq acc},toks:=tk}):AH (AE prog w) A (call (.type "tuple") [.ref r]) Q E s:=
 callType_new F.called_tuple (by decide) (F.typeCall_tuple_1 _) (F.newCall_tuple_1 _) (λobj=>F.args_object_init_2 obj _) F.entry_tuple_new (aAa r n t u v hn) ⟨hh,ir,λh' tk acc k1 k2=>⟨⟨_,aZ _ rfl,rfl⟩,q h' tk acc k1 k2⟩⟩
end
section
variable {X:Cx}{sd:List Slot}{e:Expr}{pos:Pos}
theorem aAL{p p2 q2:Pos}{n:Nat}(hg:Gl X "tuple")(hm:X.mg "tuple"=none)(hg2:Gl X "range")(hm2:X.mg "range"=none)(ha:PEd X sd e (.val (.int (n:Int))))(h1:n<=1000)
  (hc:X.calm=true:=by rfl) (hst:AD [e] X.env=(false,eval e X.env)::AD [] X.env:=by rfl) (hst2:AD [.Call (.Name "range" p2) [e] [] q2] X.env=(false,eval (.Call (.Name "range" p2) [e] [] q2) X.env)::AD [] X.env:=by rfl):
  PEd X sd (.Call (.Name "tuple" p) [.Call (.Name "range" p2) [e] [] q2] [] pos) (.val (.tup (bY (bK n)))):=.mk λσ F H S pins s I=>by
 refine Af (lU I hg hm PyProof.Rows.boot_tuple (PyProof.Rows.callWith_type1 ?_ hst2 rfl));rw[hst2];refine Calls.spliced_cons (Af (lU I hg2 hm2 boot_range ?_));refine PyProof.Rows.callWith_type1 (thn ((fP (te:=wE X e) gR pa_nil hst) q2 pins s σ H (λus H1=>∃v F1,us=[v]/\StF X.K X.B₀ F1 H1 σ sd/\Same F F1/\ResOk X.K F1 H1 sd (.val (.int (n:Int))) v) I ((ha σ F H S).imp λv H1 ⟨F1,S1,s1,q1⟩=>⟨v,F1,rfl,S1,s1,q1⟩)) λus s1 hus=> ?_) hst rfl;obtain⟨ws,H1,I1,rv,v,F1,rfl,S1,sF,q1⟩:=hus;obtain⟨u,rfl,ru⟩:=pA rv;simp only[ResOk,Rep] at q1;subst q1;obtain⟨t,rfl⟩:=ru;refine call_range_1 (Calls.spliced_nil ?_);refine xU (I1.ok.hd hc) (IsRange.new ..) h1 λh' tk acc kp it=> ?_
 have kp2:∀b o,s1.heap.get? b=some o->h'.get? b=some o:=λb o g=>kp b o (aD _ g)
 have le:s1.heap.objs.size<=h'.objs.size:=cW (aK (kp s1.heap.objs.size _ (aZ _ rfl)));have hD:H1 h'.objs.size=none:=I1.hok.fresh le;have ln:acc.toList.length=n:=by rw[cR];exact it.1
 have vl:Vals ((bK n).map λ(k:Nat)=>V.int (k:Int)) acc.toList:=by
  have g:∀ (l:List BO) (f:Nat->Int),(∀ (j:Nat) (v:BO),l[j]? =some v->∃t,v=.int (f j) t)->Vals ((bK l.length).map λ(k:Nat)=>V.int (f k)) l:=λl=>by
   induction l with
   |nil=>intro f _;exact .nil
   |cons x l ih=>intro f h;obtain⟨t,e⟩:=h 0 x rfl;rw[bU,List.range_succ_eq_map,aX,aV];exact .cons ⟨t,e⟩ (ih (λk=>f (k+1)) λj v hv=>h (j+1) v (by simpa using hv))
  have:=g acc.toList (λk=>(k:Int)) λj v hv=>by obtain⟨t,e⟩:=it.2 j v (by rw[<-dG];exact hv);exact⟨t,by rw[e];congr 1;omega⟩
  rw[ln] at this;exact this
 have I3:Inv X pins σ (upd H1 h'.objs.size (.tup ((bK n).map λ(k:Nat)=>V.int (k:Int)))) {s1 with heap:=h'.push {cls:=.type "tuple",data:=.seq acc},toks:=tk}:=
  I1.laid (λb o g=>aD _ (kp2 b o g)) le ⟨by rw[aB,eM];exact cW (fX h1),acc.toList,vl,by simpa using IsTupD.new h' acc⟩
 obtain⟨S4,s4⟩:=S1.lay (o:=.tup ((bK n).map λ(k:Nat)=>V.int (k:Int))) hD trivial;refine⟨.ref h'.objs.size,_,I3,rfl,_,S4,sF.trans s4, ?_⟩;simp only[ResOk,Rep];refine⟨_,_,rfl,cD, ?_⟩
 have gg:∀ks:List Nat,RepL X.K (upd F1 h'.objs.size (.tup ((bK n).map λ(k:Nat)=>V.int (k:Int)))) (ks.map λ(k:Nat)=>D.int (k:Int)) (ks.map λ(k:Nat)=>V.int (k:Int)):=λks=>by
  induction ks with
  |nil=>exact .nil
  |cons k ks ih=>exact .cons (by simp only[Rep]) ih
 exact gg _
end
noncomputable def mx1(c:Int)(k:Nat):Int:=(c%2147483647+69621*(k:Int)+7919)*48271%2147483647
noncomputable def mx2(c:Int)(k:Nat):Int:=mx1 c k*mx1 c k%2147483629
noncomputable def mxS(c:Int)(k:Nat):Int:=if c%2=0 then c / ((2^(8*k+1):Nat):Int) else(mx2 c k*mx2 c k+16807*(k:Int))%2147483587
def CMx:List D->R->Prop:=λds r=>∃ (c:Int) (k:Nat),ds=[.int c,.int (k:Int)]/\k<=400/\r=.val (.int (mxS c k))
def aLe:List D->R->Prop:=λds r=>∃p q ws,qK p q/\Fil p ws/\ds=[cS p,sqD q,bG ws]/\r=.val (.int (nwQ p q ws))
def aHG:List D->R->Prop:=λds r=>∃p q ws,qK p q/\Fil p ws/\ds=[cS p,sqD q,bG ws]/\r=.val (bG (onQ p q ws))
noncomputable def drQ(p:Int×Int)(c:Int):SQ:=((mxS c 1%10).toNat,mxS c 2%p.2,mxS c 4%p.2,mxS c 3%((2^p.1.toNat:Nat):Int))
def aLu:List D->R->Prop:=λds r=>∃p c,p∈bX/\ds=[cS p,.int c]/\r=.val (sqD (drQ p c))
theorem aMj{p:Int×Int}(hp:p∈bX)(c:Int):qK p (drQ p c):=by
 obtain⟨h1,h2,h3,h4,h5⟩:=uB p hp;have p20:(0:Int)<p.2:=by omega
 have m0:=pw0 p.1.toNat;have d1:=cK (mxS c 1) (show(0:Int)<10 by decide);exact⟨hp,by show(mxS c 1%10).toNat<10;omega,⟨dP _ (kN p20),cK _ p20⟩,⟨dP _ (kN p20),cK _ p20⟩,⟨dP _ (kN m0),cK _ m0⟩⟩
theorem lO{α:Type}{f:α->D}{L:List α}{t:Nat}{d:D}(h:(L.map f)[t]? =some d):∃x,L[t]? =some x/\d=f x/\L.take (t+1)=L.take t++[x]:=by rw[bF] at h;obtain⟨x,h1,h2⟩:=gQ.mp h;exact⟨x,h1,h2.symm,by rw[fD,h1];rfl⟩
theorem aIR{α:Type}{L:List α}(nd:L.Nodup){t:Nat}{x:α}(h:L[t]? =some x):x∉L.take t:=λz=>by
 obtain⟨i,hi,e⟩:=eZ z;have il:i<t:=by rw[cT] at hi;omega
 rw[aIi] at e;obtain⟨t1,e2⟩:=aN.mp h;have:=(kZ nd).mp (e.trans e2.symm);omega
theorem aEL{p:Int×Int}(hp:p∈bX):(bV p).Nodup:=by
 have e:(bV p).map (nF p)=bK (bV p).length:=by
  refine oK (by simp) λi h1 h2=> ?_
  have hi:i<(bV p).length:=by simpa using h1
  rw[fJ,aGW];have:=vX hp hi;simpa[bR,hi] using this
 have nd:((bV p).map (nF p)).Nodup:=by rw[e];exact lA
 exact List.Pairwise.of_map _ (λa b h z=>h (by rw[z])) nd
noncomputable def inK(ws:List Int):List Key:=ws.map λ(i:Int)=>(Sum.inl i:Key)
theorem aLf(ws:List Int):tD (inK ws)=bG ws:=by unfold tD inK bG;rw[aV];rfl
theorem aDu:∀ {a b:List Int},inK a=inK b->a=b
 |[],[],_=>rfl
 |[],_::_,h=>by cases h
 |_::_,[],h=>by cases h
 |x::a,y::b,h=>by
  have h:(Sum.inl x:Key)::inK a=(Sum.inl y:Key)::inK b:=h;injection h with h1 h2
  rw[aDu h2,Sum.inl.inj h1]
noncomputable def mgD(P:AG)(w:AL)(K:aA)(p:Int×Int)(s:SK):D:=gD (hkT P w) K ((bV p).map inK) ((bV p).map λws=>bG (onQ p s.1 ws))
def aPg(P:AG)(w:AL)(K:aA):List D->R->Prop:=λds r=>∃p L,p∈bX/\StkOk p L/\ds=[cS p,.lst (L.map skD)]/\r=.own (L.map (mgD P w K p))
noncomputable def xA(L:List SK)(q:SQ):Bool:=(L.map λs=>sqD s.1).any λz=>deq z (sqD q)
theorem aJr{L:List SK}{q:SQ}(h:xA L q=false):sqD q∉L.map λs=>sqD s.1:=λhm=>by
 unfold xA at h;have:=aIg.mp h _ hm
 exact this (nI _ (by
  show pl (iY _ _ _ _)=true;unfold iY
  split
  ·rfl
  ·split<;>rfl))
namespace S45
end S45
noncomputable abbrev St45:=List Bk×S45.Lay (List (List Int))
section
variable {p:Int×Int}{L:List SK}
theorem StkOk.pr(S:StkOk p L):∀k,k<L.length->1<=prK L k:=λk hk=>(S.st _ (DL.getD_mem (d:=(AR:SK)) hk)).2.1
theorem vH(hp:p∈bX)(S:StkOk p L){row:List Nat}(h:gL L row):∀ws∈S45.tabQ (oA p L) (bV p) row,ws∈bV p:=λws hw=>by obtain⟨q1,q2⟩:=yN hp (λs hs=>(S.st s hs).1) h;rw[<-q2] at hw;obtain⟨i,hi,rfl⟩:=aO.mp hw;exact DL.getD_mem (q1.2 i hi)
theorem aDX(hp:p∈bX)(S:StkOk p L){row:List Nat}(h:gL L row):(S45.tabQ (oA p L) (bV p) row).length<=64:=by obtain⟨q1,q2⟩:=yN hp (λs hs=>(S.st s hs).1) h;rw[<-q2];unfold jP;rw[aB,q1.1];exact lI hp
end
end DL
namespace L2
open PySem PySem.Spec PyProof.Rows
end L2
namespace DL
open PySem PySem.Spec PyProof.Rows L2
section
variable {prog:AG}{w:AL}{K:Type}[DecidableEq K]{knd:HeapKind prog w K}{A:BR}{E:BO->BP->Prop}{s:BP}
theorem aAb{d a:BQ}{xs:List (K×BQ×BO)}{k:K}{j:Nat}{p:BQ×BO}{Q:Option DictEntry->BP->Prop}(hu:knd.room A)(hkey:knd.is s.heap k a)(hm:s.heap.DictOfH knd d xs)(hj:xs[j]? =some (k,p))
  (hQ:∀h',h'.DictOfH knd d (xs.eraseIdx j)->Heap.SameBut d s.heap h'->Q (some (entryOfKey knd (k,p))) {s with heap:=h',toks:=s.toks+knd.draws k})
  (hsz:xs.length<=AM):
  AH (AE prog w) A (Builtin.Dict.takeOut d (.ref a)) Q E s:=by
 obtain⟨o,es,ep,ho,hc,hd,he,his,hn⟩:=hm;have hes:es.size<=AM:=by have e:=BD he;omega
 unfold Builtin.Dict.takeOut
 try with_reducible refine AV ?_
 refine AA (knd.pyHash hu hkey ?_);refine AA (wpAny_dictFind_heap (s:={s with toks:=s.toks+knd.draws k}) hu hkey ho hd he his hn (λno=>absurd hj (no j p)) λj' p' hj'=> ?_)
 have ej:j'=j:=by obtain⟨i1,e1⟩:=aN.mp hj';obtain⟨i2,e2⟩:=aN.mp hj;refine(kZ (i:=j') (j:=j) (h₀:=by rw[aB];exact i1) (h₁:=by rw[aB];exact i2) hn).mp ?_;rw[fJ,fJ,e1,e2]
 subst ej;rw[hj] at hj';cases hj';refine AA (An (s:={s with toks:=s.toks+knd.draws k}) ho hd ?_);rw[entry_at he j',hj];refine AA (wpAny_updateDictKeys (hz:=hes) (s:={s with toks:=s.toks+knd.draws k}) ho hd (AB (hQ _ ⟨_,_,ep+1,dX _ ho (Obj.isFreed_of_dict (Obj.data_mapDictKeys hd _)),hc.mapDictKeys _,Obj.data_mapDictKeys hd _, ?_,λx hx=> ?_, ?_⟩ (Heap.SameBut.update ..))))
 ·have:(es.eraseIdxIfInBounds j').toList=es.toList.eraseIdx j':=by obtain⟨l⟩:=es;simp
  rw[this,he,yY]
 ·exact knd.keeps (his x (jV hx)) ho hd (Heap.SameBut.update ..)
 ·exact hn.sublist ((pQ _ _).map _)
end
section
variable {prog:AG}{w:AL}{K:Type}[DecidableEq K](knd:HeapKind prog w K)(d a:BQ)
theorem aBI:
  MeetsIn prog w (Builtin.«dict.pop» ⟨[.ref d, .ref a],[]⟩) (fun A R s=>knd.room A.in1∧∃k xs j p,knd.is s.heap k a∧s.heap.DictOfH knd d xs∧xs.length≤AM∧xs[j]? =some (k,p)∧
   ∀h',h'.DictOfH knd d (xs.eraseIdx j)->Heap.SameBut d s.heap h'->R (.ok (.ret p.2)) {s with heap:=h',toks:=s.toks+knd.draws k}):=
 .of_wp λA R s ⟨hu,k,xs,j,p,hkey,hm,hz,hj,h⟩=>by
  unfold Builtin.«dict.pop»;refine AA ?_;unfold Builtin.Dict.keyAndDefault;refine AA (BF hm.typeIs ?_);show AH _ _ (pure (d,Value.ref a,none)) _ _ s;refine AB ?_;have hp:(keyPart (Value.ref a)).isSome=false:=rfl;simp only[hp,aR,if_false];obtain⟨o,es,ep,ho,hc,hd,he,his,hn⟩:=id hm;refine AA (An ho hd (AA (AB ?_)))
  have ne:es.isEmpty=false:=by have e:=BD he;have:=(aN.mp hj).1;rw[Array.isEmpty_eq_false_iff_exists_mem];exact⟨es[0],Array.getElem_mem (by omega)⟩
  simp only[ne,aR,if_false];refine AA (aAb hu hkey hm hj (λh' hm' hs'=> ?_) hz);simp only[Option.isNone_some,aR,if_false];exact AA (BA (AB ⟨_,rfl,h h' hm' hs'⟩))
end
section
variable {X:Cx}{pins:List (BQ×BZ)}{σ:St}{H:Hp}{s:BP}{sts:List BU}
noncomputable abbrev reB(X:Cx)(B:Hp)(h:∀b o,X.H₀ b=some o->zU o->B b=some o):Cx:={X with B₀:=B,hB:=h}
theorem aJC{B:Hp}{hb:∀b o,X.H₀ b=some o->zU o->B b=some o}(I:Inv X pins σ H s):Inv (reB X B hb) pins σ H s:=
 ⟨⟨I.ok.mod,I.ok.kind,I.ok.glob,I.ok.blt,I.ok.above,I.ok.inj,I.ok.has,I.ok.cab,I.ok.hd,I.ok.frames,I.ok.stk,I.ok.exf,I.ok.bs,I.ok.bsz,I.ok.noex,I.ok.exfs,I.ok.funs,I.ok.frf⟩,I.os,I.bare,I.base,I.loc,I.cell,I.free,I.freeC,I.pin,I.hok,I.len⟩
theorem uN{B:Hp}{hb:∀b o,X.H₀ b=some o->zU o->B b=some o}(I:Inv (reB X B hb) pins σ H s):Inv X pins σ H s:=
 ⟨⟨I.ok.mod,I.ok.kind,I.ok.glob,I.ok.blt,I.ok.above,I.ok.inj,I.ok.has,I.ok.cab,I.ok.hd,I.ok.frames,I.ok.stk,I.ok.exf,I.ok.bs,I.ok.bsz,I.ok.noex,I.ok.exfs,I.ok.funs,I.ok.frf⟩,I.os,I.bare,I.base,I.loc,I.cell,I.free,I.freeC,I.pin,I.hok,I.len⟩
theorem aJt{B:Hp}{hb:∀b o,X.H₀ b=some o->zU o->B b=some o}{D:uC}(h:wSs (reB X B hb) sts D σ H):wSs X sts D σ H:=λpins s I=>thn (h pins s (aJC I)) λf s' q=>by
 cases f with
 |next=>obtain⟨σ',H',I',q⟩:=q;exact⟨σ',H',uN I',q⟩
 |brk=>obtain⟨σ',H',I',q⟩:=q;exact⟨σ',H',uN I',q⟩
 |cont=>obtain⟨σ',H',I',q⟩:=q;exact⟨σ',H',uN I',q⟩
 |ret u=>obtain⟨v,σ',H',I',r,q⟩:=q;exact⟨v,σ',H',uN I',r,q⟩
end
noncomputable def spP(K:aA)(n:Nat)(C:List D->List D->R->Prop):Sp:=λvs H Q _=>vs.length=n/\∃ (l:BQ) (us:List V) (F:Hp) (xs:List V) (ds0 ds:List D) (r:R),vs=.ref l::us/\F l=none/\H=upd F l (.lst xs)/\Smp F/\RepL K F ds0 xs/\RepL K F ds us/\C ds0 ds r/\∀v H',aCw K F H' r v->Q v H'
structure aOP(P:AG)(w:AL)(K:aA)(mg:Str->Option BO)(base:BS)(x:Str)(k n:Nat)(C:List D->List D->R->Prop):Prop where
 ex:∃ (f:BQ) (fd:AY) (ps:List Str),mg x=some (.ref f)/\eE K (.ref f)=true/\Binds K fd ps []/\FnOk P w K mg base CX0 k f fd ps (spP K n C)
structure Lent(K:aA) where
 α:Type
 ad:α->BQ
 own:α->List BQ
 G:α->V->Hp->Hp->Prop
 hv:∀ {a:α}{v:V}{F H:Hp},G a v F H->v=.ref (ad a)
noncomputable def Lent.sl{K:aA}(Z:Lent K)(a:Z.α):Slot:=.ox (Z.own a) (Z.G a)
section
variable {K:aA}(Z:Lent K)
noncomputable def spL(n:Nat)(C:Z.α->List D->(Z.α->Prop)->Prop):Sp:=λvs H Q _=>vs.length=n/\∃ (v:V) (us:List V) (F:Hp) (a:Z.α) (ds:List D) (post:Z.α->Prop),vs=v::us/\Same F H/\(∀b,b∉Z.own a->H b=F b)/\Smp H/\iT K F H (Z.sl a) (some v)/\(Z.own a).Nodup/\RepL K F ds us/\C a ds post/\(∀a',post a'->Z.ad a'=Z.ad a)/\
 ∀H',(∃F' a',post a'/\Same F F'/\Same F' H'/\Smp H'/\iT K F' H' (Z.sl a') (some v)/\(Z.own a').Nodup)->Q .non H'
noncomputable def spM(n:Nat)(C:Z.α->List D->(Z.α->Prop)->Prop):Sp:=λvs H Q _=>vs.length=n/\Smp H/\∃ (v:V) (us:List V) (F:Hp) (a:Z.α) (ds:List D) (post:Z.α->Prop),vs=v::us/\Same F H/\iT K F H (Z.sl a) (some v)/\(Z.own a).Nodup/\RepL K F ds us/\C a ds post/\(∀a',post a'->Z.ad a'=Z.ad a)/\
 ∀F' H' a',post a'->Same F F'->Same F' H'->Smp H'->iT K F' H' (Z.sl a') (some v)->(Z.own a').Nodup->(∀b o,b∉Z.own a->H b=some o->H' b=some o)->(∀b o,b∉Z.own a->H b=some o->F b=none->F' b=none/\b∉Z.own a')->Q .non H'
end
open Classical in
noncomputable def wJ(as:List BQ)(F H:Hp):Hp:=λb=>if b∈as then H b else F b
open Classical in
noncomputable def lR(as:List BQ)(F H:Hp):Hp:=λb=>if b∈as then F b else rE F H b
theorem nD{as:List BQ}{F H:Hp}:Same F (lR as F H):=λb o e=>by
 unfold lR
 by_cases h:b∈as
 ·rw[if_pos h];exact e
 ·rw[if_neg h];exact rR _ _ e
theorem qW{as:List BQ}{F H:Hp}{b:BQ}(hb:b∉as)(h:F b=none):lR as F H b=H b:=by unfold lR;rw[if_neg hb];exact rM h
theorem aAl{as:List BQ}{F H:Hp}{b:BQ}(hb:b∈as):wJ as F H b=H b:=by unfold wJ;rw[if_pos hb]
theorem rH{as:List BQ}{F H:Hp}{b:BQ}(hb:b∉as):wJ as F H b=F b:=by unfold wJ;rw[if_neg hb]
theorem FnOk.framedL{P:AG}{w:AL}{K:aA}{Z:Lent K}{mg:Str->Option BO}{base:BS}{k n:Nat}{f:BQ}{fd:AY}{ps:List Str}{C:Z.α->List D->(Z.α->Prop)->Prop}(G:FnOk P w K mg base CX0 k f fd ps (spL Z n C)):FnOk P w K mg base CX0 k f fd ps (spM Z n C):=by
 have res:∀ {F H:Hp}{a:Z.α}{v:V},Same F H->iT K F H (Z.sl a) (some v)->Same F (wJ (Z.own a) F H)/\Same (wJ (Z.own a) F H) H/\iT K F (wJ (Z.own a) F H) (Z.sl a) (some v):=λ{F H a v} sF so=>by
  obtain⟨v',ev,ow,gg⟩:=so;refine⟨λb o e=> ?_,λb o e=> ?_,v',ev,λb hb=>⟨(ow b hb).1, ?_⟩,λF' H' s k=>gg F' H' s λb hb ob e=>k b hb ob (by rw[aAl hb];exact e)⟩
  ·by_cases h:b∈Z.own a
   ·rw[(ow b h).1] at e;cases e
   ·rw[rH h];exact e
  ·by_cases h:b∈Z.own a
   ·rw[aAl h] at e;exact e
   ·rw[rH h] at e;exact sF b o e
  ·rw[aAl hb];exact(ow b hb).2
 refine⟨λvs H Q E h=> ?_,λA outer s H args us vs Q E hr e0 hb rv h=> ?_⟩
 ·obtain⟨hl,sm,v,us,F,a,ds,post,e,sF,so,nd,rl,c,hp,_⟩:=h;obtain⟨q1,q2,q3⟩:=res sF so;exact G.len vs (wJ (Z.own a) F H) (λ_ _=>True) E ⟨hl,v,us,F,a,ds,post,e,q1,λb hb=>rH hb,sm.sub q2,q3,nd,rl,c,hp,λ_ _=>trivial⟩
 ·obtain⟨hl,sm,v,us',F,a,ds,post,ev,sF,so,nd,rl,c,hp,q⟩:=h;obtain⟨q1,sU,q3⟩:=res sF so;obtain⟨_,_,ow,_⟩:=id so;have nU:∀b,b∉Z.own a->F b=none->wJ (Z.own a) F H b=none:=λb hbl n=>by rw[rH hbl];exact n
  have e1:aKC P w K mg base A outer s (wJ (Z.own a) F H):=⟨e0.frames,e0.mod,λb o e=>⟨(e0.bs b o e).1,sU.free (e0.bs b o e).2⟩,e0.bsz,e0.funs,λb hb=>sU.free (e0.frf b hb),λb o e=>(e0.hok b o (sU b o e)).smp (sm b o (sU b o e)),e0.bare⟩;refine BB (G.run A outer s (wJ (Z.own a) F H) args us vs (λv3 F3=>v3=.non/\∃F' a',post a'/\Same F F'/\Same F' F3/\Smp F3/\iT K F' F3 (Z.sl a') (some v)/\(Z.own a').Nodup) E hr e1 hb rv ⟨hl,v,us',F,a,ds,post,ev,q1,λb hb=>rH hb,sm.sub sU,q3,nd,rl,c,hp,λH' z=>⟨rfl,z⟩⟩) λrr s' hrr=> ?_
  cases rr with
  |error e=>exact hrr
  |ok flw=>
   cases flw with
   |ret u=>
    obtain⟨v3,F3,ho,ha,un,hk,ru,e3,F2,a',pa,s1,s2,sm3,so3,nd3⟩:=hrr;subst e3
    have keepF:∀b o,b∉Z.own a->H b=some o->F b=none->F3 b=none:=λb o hbl e n=>by
     have lt:=e0.hok.lt e;cases g:s.heap.get? b with
     |none=>
      exfalso;have ob:=e0.hok b o e;have z:=sm b o e;cases o with
      |lst xs=>obtain⟨_,_,_,_,g'⟩:=ob;rw[g] at g';cases g'
      |tup xs=>obtain⟨_,_,_,oo,g',_⟩:=ob;rw[g] at g';cases g'
      |dK kvs=>obtain⟨_,_,_,_,oo,_,_,g',_⟩:=ob;rw[g] at g';cases g'
      |frz o2 u2=>obtain⟨g',_⟩:=ob;rw[g] at g';cases g'
      |ext φ=>obtain⟨_,⟨oo,g'⟩,_⟩:=ob;rw[g] at g';cases g'
      |_=>exact z
     |some ob=>exact un.free b ob g (nU b hbl n) (by simp)
    have keepO:∀b o,b∉Z.own a->H b=some o->F b=none->∀ob,s.heap.get? b=some ob->s'.heap.get? b=some ob:=λb o hbl e n ob g=>un.keep b ob g (nU b hbl n) (λhb=>by have:=e0.frf b hb;rw[e] at this;cases this) (by simp)
    have sH:∀b o,b∉Z.own a->H b=some o->lR (Z.own a) F3 H b=some o:=λb o hbl e=>by
     cases g:F b with
     |none=>rw[qW hbl (keepF b o hbl e g)];exact e
     |some o'=>have:=sF b o' g;rw[e] at this;cases this;exact nD _ _ (s2 _ _ (s1 _ _ g))
    have nl:∀ {b:BQ}{o:HO},H b=some o->¬ Wr b o->b∉Z.own a:=λe no z=>by obtain⟨_,ob,g,wr⟩:=ow _ z;rw[e] at g;cases g;exact no wr
    have nn:∀ {b:BQ},H b=none->b∉Z.own a:=λe z=>by obtain⟨_,ob,g,_⟩:=ow _ z;rw[e] at g;cases g
    have smM:Smp (lR (Z.own a) F3 H):=λb o e=>by
     by_cases hbl:b∈Z.own a
     ·unfold lR at e;rw[if_pos hbl] at e;exact sm3 _ o e
     ·cases g:F3 b with
      |some o'=>have:=nD (as:=Z.own a) (H:=H) b o' g;rw[e] at this;cases this;exact sm3 b o g
      |none=>rw[qW hbl g] at e;exact sm b o e
    have soM:iT K F2 (lR (Z.own a) F3 H) (Z.sl a') (some v):=by obtain⟨v',ev,ow3,gg⟩:=so3;refine⟨v',ev,λb hb=>⟨(ow3 b hb).1, ?_⟩,λF' H' s k=>gg F' H' s λb hb ob e=>k b hb ob (nD _ _ e)⟩;obtain⟨_,ob,g,wr⟩:=ow3 b hb;exact⟨ob,nD _ _ g,wr⟩
    refine⟨.non,lR (Z.own a) F3 H,ho,ha,⟨λb o g n hb hx=>un.keep b o g (sU.free n) hb hx,λb o g n hb hx=>un.slot b o g (sU.free n) hb hx,λb o g n hx=> ?_,un.there,λb xs e=>sH _ _ (nl e λz=>z) e,λb o u e=>sH _ _ (nl e λz=>z) e,λb ps e=>⟨#[],by rw[sH _ _ (nl e λz=>z) e];simp⟩⟩,λb o e=> ?_,ru, ?_⟩
    ·rw[qW (nn n) (un.free b o g (sU.free n) hx)];exact n
    ·have z:=smM b o e
     by_cases hbl:b∈Z.own a
     ·have e':F3 b=some o:=by unfold lR at e;rw[if_pos hbl] at e;exact e
      exact(hk b o e').smp z
     ·cases g:F3 b with
      |some o'=>have:=nD (as:=Z.own a) (H:=H) b o' g;rw[e] at this;cases this;exact(hk b o g).smp z
      |none=>
       rw[qW hbl g] at e
       have n:F b=none:=by
        cases g2:F b with
        |none=>rfl
        |some o2=>rw[s2 _ _ (s1 _ _ g2)] at g;cases g
       have st:=(e0.hok b o e).smp (F:=λ_=>none) z
       have:ObjOk P w (fun _=>none) s'.heap b o:=st.stay (fun b2 u hb2 gg=>by
        rcases hb2 with rfl|hb2
        ·exact keepO _ o hbl e n u gg
        ·cases hb2) (λb2 hb2=>nomatch hb2) λb2 xs hb2=>nomatch hb2
       exact this.smp z
    ·refine q F2 (lR (Z.own a) F3 H) a' pa s1 (s2.trans nD) smM soM nd3 sH λb o hbl e n=> ?_
     have n3:=keepF b o hbl e n;refine⟨s2.free n3,λhb=> ?_⟩;obtain⟨_,_,ow3,_⟩:=so3;obtain⟨_,ob,g,_⟩:=ow3 b hb;rw[n3] at g;cases g
   |_=>exact hrr
theorem qO:∀ {sd:List Slot}{i:Nat}{z:Slot},(cE sd).Nodup->sd[i]? =some z->(iH z).Nodup
 |[],_,_,_,e=>by simp at e
 |y::zs,0,z,h,e=>by
  have:y=z:=by simpa using e
  subst this;exact(bJ.mp (show(iH y++cE zs).Nodup from h)).1
 |y::zs,i+1,z,h,e=>qO (sd:=zs) (i:=i) (bJ.mp (show(iH y++cE zs).Nodup from h)).2.1 (by simpa using e)
structure uP(P:AG)(w:AL)(K:aA)(Z:Lent K)(mg:Str->Option BO)(base:BS)(x:Str)(k n:Nat)(C:Z.α->List D->(Z.α->Prop)->Prop):Prop where
 ex:∃ (f:BQ) (fd:AY) (ps:List Str),mg x=some (.ref f)/\eE K (.ref f)=true/\Binds K fd ps []/\FnOk P w K mg base CX0 k f fd ps (spL Z n C)
noncomputable def aAP{K:aA}(Z:Lent K)(n:Nat)(a:Z.α)(ds:List D):List Slot:=Z.sl a::(ds.map Slot.val++gI (n-(ds.length+1)) .un)
theorem aKo{P:AG}{w:AL}{K:aA}{Z:Lent K}{mg:Str->Option BO}{base:BS}{x qual:Str}{st:BU}{f:BQ}{fd:AY}{N ps:List Str}{k:Nat}{C:Z.α->List D->(Z.α->Prop)->Prop}(F:Fun K x qual st f fd)(S:pH N ps (bI st))
  (hm:mg x=some (.ref f)) (hb:∀ (kV doc pm:BO) (an:Option BQ) (cdv ct:BO) (us:List BO),us.length=ps.length->bindArgs (gB x qual (kR st) (iK st) (bI st) .none kV doc pm an cdv ct) ⟨us,[]⟩=pure (ps.zip us))
  (body:∀ (cdv:BO) (A:BR) (outer:List Env) (s:BP) (H:Hp) (E:XK) (B:Hp) (hB:∀b o,H b=some o→zU o→B b=some o),Room k (A.deeper (Aj qual (bI st) s.heap.objs.size f cdv))→∀a ds post,ds.length+1=ps.length→C a ds post→
   PSd (reB (oS CX0 P w K mg base N qual (bI st) f cdv A outer s H E).nox B hB) (aAP Z N.length a ds) (iK st) {nx:=λsd'=>∃a',post a'/\sd'[0]? =some (Z.sl a'),rt:=λ_=>False})
  (hw:∀ (a:Z.α) (v:V) (F H:Hp) (b:BQ) (o:HO),Z.G a v F H->b∈Z.own a->H b=some o->¬ zU o):uP P w K Z mg base x (k+1) ps.length C:=by
 refine⟨f,fd,ps,hm,F.kp,F.binds hb,F.ok S (λvs H Q E h=>h.1) λcdv A outer s H vs Q E hr h=> ?_⟩;obtain⟨hl,v,us,F0,a,ds,post,rfl,sF,hH,sm,so,nd,rl,c,hp,q⟩:=h;have hds:ds.length+1=ps.length:=by rw[<-rl.len];exact hl
 have hB:∀b o,H b=some o->zU o->F0 b=some o:=λb o e no=>by
  by_cases hbl:b∈Z.own a
  ·obtain⟨_,_,_,gg⟩:=so;exact absurd no (hw a _ F0 H b o (gg F0 H (Same.refl _) λ_ _ _ e=>e) hbl e)
  ·rw[<-hH b hbl];exact e
 refine⟨_,rA,aJt (B:=F0) (hb:=hB) ?_⟩;have hlen:N.length-(us.length+1)=N.length-(ds.length+1):=by rw[rl.len]
 have S0:StF K F0 F0 H (L2.start N (v::us)) (aAP Z N.length a ds):=by
  refine⟨Same.refl _,sF,sm, ?_, ?_⟩
  ·unfold L2.start aAP;show SlotsOk K F0 _ (_::_) (some v::(us.map some++gI (N.length-(us.length+1)) none));rw[hlen];exact⟨_,_,rfl,so,qJ (m:=0) rl⟩
  ·unfold aAP;rw[qI,qP,dM];exact nd
 refine(body cdv A outer s _ E F0 hB hr a ds post hds c (L2.start N (v::us)) F0 _ S0).imp ?_ ?_ (λ_ _ ⟨_,_,_,_,z⟩=>z) λ_ _ ⟨_,_,_,_,z⟩=>z
 ·rintro σ' H' ⟨sd',F',S',s',a',pa,hs⟩;obtain⟨o,h1,so'⟩:=S'.slots.get hs;obtain⟨v',rfl,ow',gg⟩:=so';have e1:=Z.hv (gg F' H' (Same.refl _) λ_ _ _ e=>e);obtain⟨v0,ev,_,g0⟩:=so;cases ev;have e0:=Z.hv (g0 F0 H (Same.refl _) λ_ _ _ e=>e);have evv:v'=v:=by rw[e1,e0,hp a' pa]
  subst evv;refine q H' ⟨F',a',pa,S'.base,S'.sub,S'.smp,⟨v',rfl,ow',gg⟩, ?_⟩;have nd':=S'.nd;exact qO nd' hs
 ·rintro v' H' ⟨r',ro,e⟩;exact e.elim
section
variable {X:Cx}{sd:List Slot}{c:Expr}{es:List Expr}{pos cp p p2:Pos}{ds:List D}{E:jR}{k n:Nat}{f x:Str}
theorem aEW{Z:Lent X.K}{C:Z.α->List D->(Z.α->Prop)->Prop}{post:Z.α->Prop}{a:Z.α}(i:Nat)(hs:sd[i]? =some (Z.sl a))(hxi:PE X (.Name x p2) (lH i))(G:uP X.prog X.w X.K Z X.mg X.base f k n C)(hr:Room k X.A)(hg:Gl X f)(ha:PAd X sd es (ds.map R.val))(hc:C a ds post)(hp:∀a',post a'->Z.ad a'=Z.ad a)(hn:ds.length+1=n)(hE:∀a',post a'->E.nx (sd.set i (Z.sl a')))
  (hdb:(f==("__debug__":Str))=false:=by decide) (he:AD (.Name x p2::es) X.env=(false,eval (.Name x p2) X.env)::AD es X.env:=by rfl) (hpl:(Aw cp (AD es X.env)).any (·.1)=false:=by rfl)
  (hsw:Ak (.Call (.Name f p) (.Name x p2::es) [] cp) none pos.line X.env=pure false:=by rfl):PSd1 X sd (.Expr (.Call (.Name f p) (.Name x p2::es) [] cp) pos) E:=.mk λσ F H S=>by
 obtain⟨fa,fd,ps,hm,hkp,bd,G⟩:=G.ex;obtain⟨o0,h1,v,h2,_⟩:=S.slots.get hs;refine(rJ (aCT (FnOk.framedL G) hr hg hm hkp bd .nil aLs (fP hxi xZ he) hdb he hpl) hsw).to ⟨v,by rw[h1,h2],(ha σ F H S).imp λus H1 ⟨F1,S1,s1,q1⟩=> ?_⟩;have rl:=q1.vals;obtain⟨o1,g1,so⟩:=S1.slots.get hs
 have eo:o1=some v:=by rw[h1,h2] at g1;exact(cC.inj g1).symm
 subst eo;refine⟨by rw[dM,bU,rl.len];exact hn,S1.smp,v,us,F1,a,ds,post,by rw[dM],S1.sub,so,qO S1.nd hs,rl,hc,hp,λF' H' a' pa s2 s3 sm so' nd kp kf=> ?_⟩;have S2:=S1.le (iF sd i);have no:∀b,b∈cE (sd.set i .un)->b∉Z.own a:=λb hb z=>jD S1.nd hs (show b∈iH (Z.sl a) from z) hb
 have S3:StF X.K X.B₀ F' H' σ (sd.set i .un):=⟨fun b o e=>s2 _ _ (S1.base _ _ e),s3,sm,S2.slots.mono s2 fun b hb=>by
  obtain⟨n1,ob,e,_⟩:=S2.slots.owns hb
  exact⟨(kf b ob (no b hb) e n1).1,λxs e'=>kp b xs (no b hb) e'⟩,S2.nd⟩
 have S4:=S3.setT i so' nd λb hb hb2=>by obtain⟨n1,ob,e,_⟩:=S2.slots.owns hb2;exact(kf b ob (no b hb2) e n1).2 hb
 rw[kC,lQ g1] at S4;exact⟨_,F',S4,s1.trans s2,hE a' pa⟩
theorem aEa{body:List BU}(W:Nat->List Slot->Prop)(h0:∃m sd0,Le sd sd0/\W m sd0)
  (hb:∀m sdm,W m sdm->∃t:Bool,PTd X sdm c t/\(t=false->E.nx sdm)/\(t=true->PSd X sdm body {E with nx:=λsd'=>∃m' sd2,m'<m/\Le sd' sd2/\W m' sd2,ct:=λsd'=>∃m' sd2,m'<m/\Le sd' sd2/\W m' sd2,bk:=E.nx}))
  (hp:PassesOwn (AE X.prog X.w) X.A X.env X.xe:=by exact PassesOwn.never):PSd1 X sd (.While c body [] pos) E:=.mk λσ F H S=>
 (aFZ hp aIu rA).to (by
  obtain⟨m0,sd0,le0,q0⟩:=h0;refine⟨λm σ' H'=>∃sdm F',StF X.K X.B₀ F' H' σ' sdm/\Same F F'/\W m sdm,⟨m0,sd0,F,S.le le0,Same.refl _,q0⟩, ?_⟩;rintro m σ' H' ⟨sdm,F',S',s',qm⟩;obtain⟨t,ht,h1,h2⟩:=hb m sdm qm;refine(ht σ' F' H' S').imp λb H1 ⟨eb,F1,S1,s1⟩=> ?_
  subst eb;cases b with
  |false=>exact aKz ⟨sdm,F1,S1,s'.trans s1,h1 rfl⟩
  |true=>
   refine aKy ⟨λσ2 H2=>∃m' sd2 F2,m'<m/\StF X.K X.B₀ F2 H2 σ2 sd2/\Same F F2/\W m' sd2,λσ2 H2 ⟨m',sd2,F2,lt,S2,s2,w2⟩=>⟨m',lt,sd2,F2,S2,s2,w2⟩, ?_⟩;refine(h2 rfl σ' F1 H1 S1).imp ?_ ?_ ?_ ?_
   ·rintro σ4 H4 ⟨sd4,F4,S4,s4,m',sd5,lt,le,q5⟩;exact⟨m',sd5,F4,lt,S4.le le,(s'.trans s1).trans s4,q5⟩
   ·exact λv H4 q=>q
   ·rintro σ4 H4 ⟨sd4,F4,S4,s4,q⟩;exact⟨sd4,F4,S4,(s'.trans s1).trans s4,q⟩
   ·rintro σ4 H4 ⟨sd4,F4,S4,s4,m',sd5,lt,le,q5⟩
    exact⟨m',sd5,F4,lt,S4.le le,(s'.trans s1).trans s4,q5⟩)
end
theorem zX{P:AG}{w:AL}{H:Hp}{h h':BS}{cs:List BQ}(x:HOk P w H h)(k:∀b u,b∉cs->h.get? b=some u->h'.get? b=some u)(hn:∀b∈cs,H b=none):HOk P w H h':=λa o e=>
 (x a o e).stay (fun b u hb q=>k b u (fun z=>by
  have n:=hn b z
  rcases hb with rfl|hb
  ·rw[e] at n;cases n
  ·rw[hb] at n
   cases n) q) (λ_ q=>q) λ_ _ q=>q
section
variable {prog:AG}{w:AL}{A:BR}{d I:BQ}{od:BZ}{es:Array DictEntry}{ep:Nat}
theorem aLV(hh:A.handled=none)(c:od.data=.dict es ep)(ne:d≠I):Walks prog w A I [I,d] [I] es.size (λi v=>∃u,es[i]? =some u/\v=u.key) (λi h=>h.IsKeyIter I d i es.size ep/\h.get? d=some od) where
 sub:=λb hb=>aQ.mpr (.inl (aJ.mp hb))
 frame:=λi h h' st k=>by obtain⟨⟨o,g,q⟩,g2⟩:=st;exact⟨⟨o,k I aH o g,q⟩,k d (by simp) od g2⟩
 item:=λi s Q E hi st q=>aEv st.1 st.2 c hi λh' st' sb=>q _ h' s.toks ⟨es[i],by simp[hi],rfl⟩ ⟨st',(sb.2 d ne).trans st.2⟩ λb o hb g=>(sb.2 b λz=>hb (by rw[z];exact cU _)).trans g
 done:=λs Q E st q=>aGQ hh st.1 st.2 c (aM _) λh' eb=>q h' s.toks λb o hb g=>eb b o (λz=>hb (by rw[z];exact cU _)) g
 self:=λi s Q E st q=>wpAny_pyIter_keyiter st.1 q
theorem srcD(sm:(d==Ao)=false)(x:od.ExactDict)(c:od.data=.dict es ep):PySem.W.KdlSrc prog w "dict" d d es.size (λi v=>∃u,es[i]? =some u/\v=u.key) (λh=>h.get? d=some od) where
 type:=λs ok=>rY ok x
 there:=λh ok=>⟨aK ok,aK ok⟩
 keep:=λh h' ok k=>k d (.inl rfl) od ok
 notList:=by decide
 notTuple:=by decide
 hint:=λA E s Q ok q=>PySem.W.kdl_hint_dict (rY ok x) q
 iter:=λA s hh ok=>⟨_,_,λE Q q=>aGL sm ok x c q,aLV hh c (bH (aK ok)),⟨⟨_,aZ _ rfl,rfl,rfl⟩,aD _ ok⟩⟩
end
section
variable {prog:AG}{w:AL}{A:BR}{I:BQ}{fp wr:List BQ}{n:Nat}{P:Nat->BO->Prop}{St:Nat->BS->Prop}{J:BS->Prop}{bt:Nat->Nat->Bool}{R:Result->BP->Prop}{S:BQ}
def aNR(prog:AG)(w:AL)(A:BR)(J:BS->Prop)(P:Nat->BO->Prop)(bt:Nat->Nat->Bool):Prop:=∀i k x y (t:BP) (Q:BO->BP->Prop) (E:BO->BP->Prop),J t.heap->P i x->P k y->Q (.bool (bt i k)) t->AH (AE prog w) A (richCompare .Lt x y) Q E t
def aIv(cs:List BQ)(J:BS->Prop):Prop:=∀h h':BS,J h->(∀b o,b∉cs->h.get? b=some o->h'.get? b=some o)->J h'
noncomputable def two2(v:BO)(c:Nat):BZ:={cls:=.type "list",dict:=none,data:=.seq #[v,v] c,slots:= #[]}
theorem aEk(W:Walks prog w A.in1 I fp wr n P St)(ask:aNR prog w A.in1 J P bt)(stay:aIv (S::wr) J)(nS:S∉fp):∀ (k j:Nat) (s:BP) (v0:BO) (c:Nat),n=k+(j+1)->St (j+1) s.heap->P (Ae bt j) v0->J s.heap->s.heap.get? S=some (two2 v0 c)->
  (∀v h' tk,P (Ae bt (n-1)) v->(∀b o,b∉S::wr->s.heap.get? b=some o->h'.get? b=some o)->R (.ok (.ret v)) {s with heap:=h',toks:=tk})->codeAny (AE prog w) A (.builtin "min.loop" ⟨[.ref I,.none,.ref S],[]⟩) R s:=λk=>by
 have nW:S∉wr:=λz=>nS (W.sub S z)
 have nm:(toString "min"++toString ".loop":String)="min.loop":=by decide
 have upO:∀ {h:BS}{f:BZ->BZ}{b:BQ}{o:BZ},b∉S::wr->h.get? b=some o->(h.update S f).get? b=some o:=λ{h f b o} hb g=>by rw[cI _ _ (λz=>hb (by rw[<-z];exact aH))];exact g
 have upF:∀ {h:BS}{f:BZ->BZ}{i:Nat},St i h->St i (h.update S f):=λ{h f i} st=>W.frame _ _ _ st λb hb o g=>by rw[cI _ _ (show S≠b from λz=>nS (by rw[z];exact hb))];exact g
 have sub1:∀ {b:BQ},b∉S::wr->b∉wr:=λhb z=>hb (aI _ z)
 induction k with
 |zero=>
  intro j s v0 c en st p0 hJ hS fin;have ej:n=j+1:=by omega
  refine Ai F.entry_min_loop ?_;rw[Around.under_plainId F.plain_min_loop];refine AA (m:=seqItems? (.ref S)) (AX hS rfl ?_);refine AA (m:=tryCatch (pyNext (.ref I)) _) (wpAny_tryCatch (W.done s _ _ (by rw[ej];exact st) λh1 tk k1=> ?_));refine AA (m:=updateSeq S λ_=> #[]) (wpAny_updateSeq (k1 S _ nW hS) rfl (AA (BA (AB ?_))));exact fin v0 _ tk (by rw[ej];exact p0) λb o hb g=>upO hb (k1 b o (sub1 hb) g)
 |succ k ih=>
  intro j s v0 c en st p0 hJ hS fin;refine Ai F.entry_min_loop ?_;rw[Around.under_plainId F.plain_min_loop];refine AA (m:=seqItems? (.ref S)) (AX hS rfl ?_);refine AA (m:=tryCatch (pyNext (.ref I)) _) (wpAny_tryCatch (W.item (j+1) s _ _ (by omega) st λv h1 tk pv st1 k1=> ?_));have hS1:=k1 S _ nW hS;have hJ1:J h1:=stay _ _ hJ λb o hb g=>k1 b o (sub1 hb) g
  refine AA (m:=tryCatch (holding [v,v] (richCompare .Lt v v0>>=_)) _) (wpAny_tryCatch (AV (AA (ask (j+1) (Ae bt j) v v0 ⟨h1,s.gens,s.drawn,tk,s.os⟩ _ _ hJ1 pv p0 ?_))));refine AA (AV (wpAny_truthy_bool (AA (BA (AB ?_)))));have ab:Ae bt (j+1)=if bt (j+1) (Ae bt j) then j+1 else Ae bt j:=rfl
  cases q:bt (j+1) (Ae bt j) with
  |true=>rw[q,if_pos rfl] at ab;simp only[if_true];refine AA (wpAny_updateSeq hS1 rfl (AA (BA ?_)));rw[nm];refine AB ⟨BE F.plain_min_loop _,ih (j+1) _ v _ (by omega) (upF st1) (by rw[ab];exact pv) (stay _ _ hJ1 λb o hb g=>upO hb g) (dX _ hS1 rfl) λv' h2 tk2 p2 k2=> ?_⟩;exact fin v' h2 tk2 p2 λb o hb g=>k2 b o hb (upO hb (k1 b o (sub1 hb) g))
  |false=>rw[q,if_neg bN] at ab;simp only[aR,if_false];refine AA (BA ?_);rw[nm];refine AB ⟨BE F.plain_min_loop _,ih (j+1) _ v0 c (by omega) st1 (by rw[ab];exact p0) hJ1 hS1 λv' h2 tk2 p2 k2=> ?_⟩;exact fin v' h2 tk2 p2 λb o hb g=>k2 b o hb (k1 b o (sub1 hb) g)
theorem aBX(W:Walks prog w A.in1 I fp wr n P St)(ask:aNR prog w A.in1 J P bt)(stay:aIv (S::wr) J)(nS:S∉fp)(h0:0<n){s:BP}{c:Nat}(st:St 0 s.heap)(hJ:J s.heap)(hS:s.heap.get? S=some {cls:=.type "list",dict:=none,data:=.seq #[] c,slots:= #[]})
  (fin:∀v h' tk,P (Ae bt (n-1)) v->(∀b o,b∉S::wr->s.heap.get? b=some o->h'.get? b=some o)->R (.ok (.ret v)) {s with heap:=h',toks:=tk}):codeAny (AE prog w) A (.builtin "min.loop" ⟨[.ref I,.none,.ref S],[]⟩) R s:=by
 have nW:S∉wr:=λz=>nS (W.sub S z)
 have nm:(toString "min"++toString ".loop":String)="min.loop":=by decide
 have upO:∀ {h:BS}{f:BZ->BZ}{b:BQ}{o:BZ},b∉S::wr->h.get? b=some o->(h.update S f).get? b=some o:=λ{h f b o} hb g=>by rw[cI _ _ (λz=>hb (by rw[<-z];exact aH))];exact g
 have sub1:∀ {b:BQ},b∉S::wr->b∉wr:=λhb z=>hb (aI _ z)
 refine Ai F.entry_min_loop ?_;rw[Around.under_plainId F.plain_min_loop];refine AA (m:=seqItems? (.ref S)) (AX hS rfl ?_);refine AA (m:=tryCatch (pyNext (.ref I)) _) (wpAny_tryCatch (W.item 0 s _ _ h0 st λv h1 tk pv st1 k1=> ?_));have hS1:=k1 S _ nW hS;refine AA (m:=updateSeq S λ_=> #[v,v]) (wpAny_updateSeq hS1 rfl ?_);rw[nm];refine AB ⟨BE F.plain_min_loop _,aEk W ask stay nS (n-1) 0 _ v _ (by omega) (W.frame _ _ _ st1 λb hb o g=> ?_) pv (stay _ _ hJ λb o hb g=>upO hb (k1 b o (sub1 hb) g)) (dX _ hS1 rfl) λv' h2 tk2 p2 k2=> ?_⟩
 ·rw[cI _ _ (show S≠b from λz=>nS (by rw[z];exact hb))];exact g
 ·exact fin v' h2 tk2 p2 λb o hb g=>k2 b o hb (upO hb (k1 b o (sub1 hb) g))
theorem aED{E:BO->BP->Prop}{s:BP}{x:BO}{Q:BO->BP->Prop}
  (h:AH (AE prog w) A.in1 (pyIter x) (fun it t=>∃ (I:BQ) (fp wr:List BQ) (n:Nat) (P:Nat→BO→Prop) (St:Nat→BS→Prop) (J:BS→Prop) (bt:Nat→Nat→Bool),it= .ref I∧Walks prog w A.in1 I fp wr n P St∧St 0 t.heap∧(∀b∈fp,b<t.heap.objs.size)∧0<n∧aNR prog w A.in1 J P bt∧J t.heap∧aIv (t.heap.objs.size::wr) J∧
   ∀v h' tk,P (Ae bt (n-1)) v->(∀b o,b∉wr->t.heap.get? b=some o->h'.get? b=some o)->Q v {t with heap:=h',toks:=tk}) E s):
  AH (AE prog w) A (call (.builtin "min") [x]) Q E s:=by
 have nm:(toString "min"++toString ".loop":String)="min.loop":=by decide
 refine call_function_tree F.kind_min F.plain_min F.entry_min (F.args_min1 _) ?_;refine AA (m:=Builtin.Builtins.bindParams "min" ["key","default"] 0 ⟨[],[]⟩) (wpAny_of_eq (a:=[none,none]) rfl (AA (AB ?_)));refine AA (Ah h (λit t hx=> ?_) λ_ _ z=>z);obtain⟨I,fp,wr,n,P,St,J,bt,rfl,W,st,hfp,h0,ask,hJ,stay,q⟩:=hx;refine AA (AN ?_);have nS:t.heap.objs.size∉fp:=λz=>eA _ (hfp _ z)
 rw[nm];refine AB ⟨BE F.plain_min_loop _,aBX W ask stay nS h0 (W.frame _ _ _ st λb _ o g=>aD _ g) (stay _ _ hJ λb o _ g=>aD _ g) (aZ _ rfl) λv h' tk pv k=> ?_⟩;refine q v h' tk pv λb o hb g=>k b o (λz=> ?_) (aD _ g)
 rcases aQ.mp z with z|z
 ·exact eA _ (z▸aK g)
 ·exact hb z
end
noncomputable def rkA(r:AI->Nat)(xs:Array AI)(i:Nat):Nat:=match xs[i]? with
 |some p=>r p
 |none=>0
def AscR(r:AI->Nat)(xs:Array AI)(l h:Nat):Prop:=∀i j,l<=i->i<j->j<h->rkA r xs i<rkA r xs j
theorem iO{r:AI->Nat}{xs ys:Array AI}{i j:Nat}(h:xs[i]? =ys[j]?):rkA r xs i=rkA r ys j:=by unfold rkA;rw[h]
theorem eG{r:AI->Nat}{xs:Array AI}{i:Nat}(h:i<xs.size):rkA r xs i=r xs[i]:=by unfold rkA;rw[getElem?_pos xs i h]
structure lG(prog:AG)(w:AL)(A:BR)(E:BO->BP->Prop)(s:BP)(κ:Ap)(r:AI->Nat)(a₀:Array AI):Prop where
 ask:∀ {x y:AI}{st:BV}{Q:Option Bool->BV->Prop},x∈a₀.toList->y∈a₀.toList->kindOf st=κ->Q (some (decide (r x<r y))) st->wpS (AE prog w) A E s (lt' x y) Q st
 nd:(a₀.toList.map r).Nodup
structure SB(κ:Ap)(a₀:Array AI)(st:BV):Prop where
 perm:(AK st).Perm a₀
 kind:kindOf st=κ
 failed:failedOf st=none
structure Stp(κ:Ap)(a₀:Array AI)(lo hi:Nat)(st st':BV):Prop where
 sb:SB κ a₀ st'
 pend:AC st'=AC st
 keep:∀k,k<lo\/hi<=k->(AK st')[k]? =(AK st)[k]?
section
variable {prog:AG}{w:AL}{A:BR}{E:BO->BP->Prop}{s:BP}{κ:Ap}{r:AI->Nat}{a₀:Array AI}{st st':BV}
theorem SB.size(h:SB κ a₀ st):(AK st).size=a₀.size:=h.perm.size_eq
theorem SB.mem(h:SB κ a₀ st){i:Nat}(hi:i<(AK st).size):(AK st)[i]∈a₀.toList:=(gZ.mp h.perm).mem_iff.mp (by simp)
theorem aOf{xs:Array AI}(nd:(xs.toList.map r).Nodup){i j:Nat}(hi:i<xs.size)(hj:j<xs.size)(hij:i≠j):rkA r xs i≠rkA r xs j:=λe=>by
 rw[eG hi,eG hj] at e;have e2:(xs.toList.map r)[i]'(by simpa using hi)=(xs.toList.map r)[j]'(by simpa using hj):=by simpa using e
 exact hij ((kZ nd).mp e2)
theorem SB.nd(h:SB κ a₀ st)(K:lG prog w A E s κ r a₀):((AK st).toList.map r).Nodup:=(((gZ.mp h.perm).map r).nodup_iff).mpr K.nd
theorem SB.ne(h:SB κ a₀ st)(K:lG prog w A E s κ r a₀){i j:Nat}(hi:i<a₀.size)(hj:j<a₀.size)(hij:i≠j):rkA r (AK st) i≠rkA r (AK st) j:=
 aOf (h.nd K) (by rw[h.size];exact hi) (by rw[h.size];exact hj) hij
theorem Stp.refl(h:SB κ a₀ st)(lo hi:Nat):Stp κ a₀ lo hi st st:=⟨h,rfl,λ_ _=>rfl⟩
theorem Stp.trans{lo hi:Nat}{st'':BV}(h:Stp κ a₀ lo hi st st')(h2:Stp κ a₀ lo hi st' st''):Stp κ a₀ lo hi st st'':=⟨h2.sb,h2.pend.trans h.pend,λk hk=>(h2.keep k hk).trans (h.keep k hk)⟩
theorem SB.setArr(h:SB κ a₀ st){xs:Array AI}(hp:xs.Perm (AK st)):SB κ a₀ (setArr st xs):=⟨hp.trans h.perm,h.kind,h.failed⟩
theorem eO{xs:Array AI}{i:Nat}{Q:AI->BV->Prop}(hi:i<xs.size)(h:Q xs[i] st):wpS (AE prog w) A E s (elem' xs i) Q st:=by rw[elem'_eq,getElem?_pos xs i hi];exact AJ h
theorem sC{i j:Nat}{Q:Option Bool->BV->Prop}(K:lG prog w A E s κ r a₀)(hB:SB κ a₀ st)(hi:i<a₀.size)(hj:j<a₀.size)
  (h:Q (some (decide (rkA r (AK st) i<rkA r (AK st) j))) st):wpS (AE prog w) A E s (ltAt' i j) Q st:=by
 have hi':i<(AK st).size:=by rw[hB.size];exact hi
 have hj':j<(AK st).size:=by rw[hB.size];exact hj
 rw[ltAt'_eq];refine AF (wpS_get ?_);show wpS _ _ _ _ (do let x <-elem' (AK st) i;let y <-elem' (AK st) j;lt' x y) Q st;refine AF (eO hi' (AF (eO hj' (K.ask (hB.mem hi') (hB.mem hj') hB.kind ?_))));rw[eG hi',eG hj'] at h;exact h
theorem yO{xs:Array AI}{i j:Nat}(hj:j<=xs.size)(k:Nat):
  rkA r (mirror xs i j ((j-i) / 2)) k=if i<=k/\k<j then rkA r xs (i+j-1-k) else rkA r xs k:=by
 have e:=getElem?_mirror_all (i:=i) hj k
 by_cases h1:i<=k/\k<j
 ·rw[if_pos h1] at e ⊢;exact iO e
 ·rw[if_neg h1] at e ⊢;exact iO e
theorem yM{xs:Array AI}{src d:Nat}(hs:src<xs.size)(hd:d<=src)(k:Nat):
  rkA r (bubble xs src d) k=if k=src-d then rkA r xs src else if src-d<k/\k<=src then rkA r xs (k-1) else rkA r xs k:=by
 have e:=getElem?_bubble hs d hd k
 by_cases h1:k=src-d
 ·rw[if_pos h1] at e ⊢;exact iO e
 ·rw[if_neg h1] at e ⊢
  by_cases h2:src-d<k/\k<=src
  ·rw[if_pos h2] at e ⊢;exact iO e
  ·rw[if_neg h2] at e ⊢;exact iO e
theorem AscR.snoc{xs:Array AI}{l h:Nat}(a:AscR r xs l h)(lt:l<h)(q:rkA r xs (h-1)<rkA r xs h):AscR r xs l (h+1):=λi j hi hij hj=>by
 by_cases e:j=h
 ·subst e
  by_cases e2:i=j-1
  ·rw[e2];exact q
  ·exact pC (a i (j-1) hi (by omega) (by omega)) q
 ·exact a i j hi hij (by omega)
theorem aDd{lo a nrem:Nat}{Q:Option (Option Nat)×Nat->BV->Prop}(K:lG prog w A E s κ r a₀)(hB:SB κ a₀ st)(ha:1<=a)(han:a<=nrem)(hn:lo+nrem<=a₀.size)(hs:AscR r (AK st) lo (lo+a))
  (h:∀m,a<=m->m<=nrem->AscR r (AK st) lo (lo+m)->(m<nrem->rkA r (AK st) (lo+m)<rkA r (AK st) (lo+m-1))->Q (none,m) st):
  wpS (AE prog w) A E s (forIn [a:nrem] ((none,a):Option (Option Nat) × Nat) fun _ __s=>do
   let __x <-ltAt' (lo+__s.snd) (lo+__s.snd-1)
   match __x with
   |some smaller=>if smaller=true then pure (ForInStep.done (none,__s.snd)) else pure (ForInStep.yield (none,__s.snd+1))
   |_=>pure (ForInStep.done (some none,__s.snd))) Q st:=by
 refine AU (I:=λx c st'=>st'=st/\c=(none,x)/\AscR r (AK st) lo (lo+x)) ?_ ?_ ⟨rfl,rfl,hs⟩
 ·rintro x c st' hx hxn ⟨rfl,rfl,hs'⟩;dsimp only;refine AF (sC K hB (by omega) (by omega) ?_)
  by_cases q:rkA r (AK st') (lo+x)<rkA r (AK st') (lo+x-1)
  ·simp only[q,decide_true,if_true];exact AJ (h x hx (by omega) hs' λ_=>q)
  ·simp only[q,decide_false,aR,if_false];refine AJ ⟨rfl,rfl, ?_⟩;have ne:=hB.ne K (i:=lo+x) (j:=lo+x-1) (by omega) (by omega) (by omega);exact hs'.snoc (by omega) (by omega)
 ·rintro c st' ⟨rfl,rfl,hs'⟩;rw[show max a nrem=nrem by omega] at hs' ⊢;exact h nrem han (aM _) hs' λz=>absurd z (eA _)
def DscR(r:AI->Nat)(xs:Array AI)(l h:Nat):Prop:=∀i j,l<=i->i<j->j<h->rkA r xs j<rkA r xs i
theorem DscR.snoc{xs:Array AI}{l h:Nat}(a:DscR r xs l h)(lt:l<h)(q:rkA r xs h<rkA r xs (h-1)):DscR r xs l (h+1):=λi j hi hij hj=>by
 by_cases e:j=h
 ·subst e
  by_cases e2:i=j-1
  ·rw[e2];exact q
  ·exact pC q (a i (j-1) hi (by omega) (by omega))
 ·exact a i j hi hij (by omega)
theorem aCe{lo nrem:Nat}{Q:Option Nat->BV->Prop}(K:lG prog w A E s κ r a₀)(hB:SB κ a₀ st)(h1:1<=nrem)(hn:lo+nrem<=a₀.size)
  (h:∀m st',1<=m->m<=nrem->Stp κ a₀ lo (lo+nrem) st st'->AscR r (AK st') lo (lo+m)->Q (some m) st'):wpS (AE prog w) A E s (countRun' lo nrem) Q st:=by
 rw[countRun'_eq];refine AF (aDd K hB (aM 1) h1 hn (λi j h1 h2 h3=>by omega) λm hm1 hm2 hs hq=> ?_);dsimp only
 by_cases e:m=nrem
 ·rw[if_pos (by simpa using e)];exact AJ (h m st hm1 hm2 (.refl hB _ _) hs)
 ·rw[if_neg (by simpa using e)]
  by_cases m1:m>1
  ·rw[if_pos m1];refine AF (sC K hB (by omega) (by omega) ?_);rw[decide_eq_true (hs lo (lo+m-1) (aM _) (by omega) (by omega))];dsimp only;rw[if_pos rfl];exact AJ (h m st hm1 hm2 (.refl hB _ _) hs)
  ·rw[if_neg m1];have em:m=1:=by omega
   subst em;have hq:=hq (by omega);refine AF (wpS_lift (Au ⟨rfl, ?_⟩));refine AF (Aa (AU (I:=λx c st'=>st'=st/\c=(none,x,0)/\DscR r (AK st) lo (lo+x)) (Q:=λc st'=>st'=st/\∃m,c=(none,m,0)/\2<=m/\m<=nrem/\DscR r (AK st) lo (lo+m)) ?step ?fin ⟨rfl,rfl, ?init⟩) ?post)
   case init=>
    intro i j h1 h2 h3;have e1:i=lo:=by omega
    have e2:j=lo+1:=by omega
    subst e1 e2;exact hq
   case step=>
    rintro x c st' hx hxn ⟨rfl,rfl,hs'⟩;dsimp only;refine AF (sC K hB (by omega) (by omega) ?_)
    by_cases q:rkA r (AK st') (lo+x)<rkA r (AK st') (lo+x-1)
    ·simp only[q,decide_true,if_true];rw[if_neg (by omega)];exact AJ ⟨rfl,rfl,hs'.snoc (by omega) q⟩
    ·simp only[q,decide_false,aR,if_false];refine AF (sC K hB (by omega) (by omega) ?_);have ne:=hB.ne K (i:=lo+x) (j:=lo+x-1) (by omega) (by omega) (by omega);rw[decide_eq_true (show rkA r (AK st') (lo+x-1)<rkA r (AK st') (lo+x) by omega)];dsimp only;rw[if_pos rfl];exact AJ ⟨rfl,x,rfl,hx,by omega,hs'⟩
   case fin=>rintro c st' ⟨rfl,rfl,hs'⟩;rw[show max (1+1) nrem=nrem by omega] at hs' ⊢;exact⟨rfl,nrem,rfl,by omega,aM _,hs'⟩
   case post=>
    rintro c st' ⟨rfl,m,rfl,m2,mn,hd⟩;dsimp only;rw[if_neg (by omega),reverseSlice'_eq];refine AF (BC ?_);have hz:lo+m<=(AK st').size:=by rw[hB.size];omega
    have S:Stp κ a₀ lo (lo+nrem) st' (setArr st' (mirror (AK st') lo (lo+m) ((lo+m-lo) / 2))):=by refine⟨hB.setArr (mirror_perm _ _ _ _),rfl,λk hk=> ?_⟩;show(mirror (AK st') lo (lo+m) ((lo+m-lo) / 2))[k]? =_;rw[getElem?_mirror_all hz,if_neg (by omega)]
    refine AF (aDd K S.sb (by omega) mn hn (λi j h1 h2 h3=> ?_) λm' a1 a2 a3 _=> ?_)
    ·show rkA r (mirror (AK st') lo (lo+m) ((lo+m-lo) / 2)) i<rkA r (mirror (AK st') lo (lo+m) ((lo+m-lo) / 2)) j;rw[yO hz,yO hz,if_pos (by omega),if_pos (by omega)];exact hd _ _ (by omega) (by omega) (by omega)
    ·exact AJ (h m' _ (by omega) a2 S a3)
theorem aGc{lo n ok:Nat}{Q:Bool->BV->Prop}(K:lG prog w A E s κ r a₀)(hB:SB κ a₀ st)(hn:lo+n<=a₀.size)(hok:ok<=n)(hs:AscR r (AK st) lo (lo+ok))
  (h:∀st',Stp κ a₀ lo (lo+n) st st'->AscR r (AK st') lo (lo+n)->Q true st'):wpS (AE prog w) A E s (binarySort' lo n ok) Q st:=by
 rw[binarySort'_eq]
 refine AF (Aa (AU (I:=fun k c st'=>c=(none,())∧Stp κ a₀ lo (lo+n) st st'∧AscR r (AK st') lo (lo+min k n))
  (Q:=λc st'=>c=(none,())/\Stp κ a₀ lo (lo+n) st st'/\AscR r (AK st') lo (lo+n)) ?step ?fin ?init) ?post)
 case post=>rintro c st' ⟨rfl,S,hs'⟩;exact AJ (h st' S hs')
 case init=>refine⟨rfl,.refl hB _ _,λi j hi hij hj=> ?_⟩;exact hs i j hi hij (by omega)
 case fin=>
  rintro c st' ⟨hc,S,hs'⟩;refine⟨hc,S, ?_⟩
  rwa[show min (max (max ok 1) n) n=n by omega] at hs'
 case step=>
  rintro k c st' hak hkn ⟨rfl,S,hs'⟩;rw[show min k n=k by omega] at hs';have hB':=S.sb;have hk:lo+k<a₀.size:=by omega
  refine AF (Aa (AU (I:=fun x c st''=>st''=st'∧∃l r',c=(none,l,r')∧l≤r'∧r'≤k∧r' - l≤k - x∧
    (∀i,i<l->rkA r (AK st') (lo+i)<rkA r (AK st') (lo+k))/\(∀i,r'<=i->i<k->rkA r (AK st') (lo+k)<rkA r (AK st') (lo+i)))
   (Q:=fun c st''=>st''=st'∧∃l r',c=(none,l,r')∧l≤k∧
    (∀i,i<l->rkA r (AK st') (lo+i)<rkA r (AK st') (lo+k))/\(∀i,l<=i->i<k->rkA r (AK st') (lo+k)<rkA r (AK st') (lo+i))) ?istep ?ifin ?iinit) ?ipost)
  case iinit=>exact⟨rfl,0,k,rfl,by omega,by omega,by omega,λi hi=>by omega,λi h1 h2=>by omega⟩
  case ifin=>
   rintro c st'' ⟨rfl,l,r',rfl,hlr,hrk,hm,hlo,hhi⟩;have:l=r':=by omega
   subst this;exact⟨rfl,l,l,rfl,hrk,hlo,hhi⟩
  case istep=>
   rintro x c st'' _ hxk ⟨rfl,l,r',rfl,hlr,hrk,hm,hlo,hhi⟩;dsimp only
   by_cases hge:l>=r'
   ·rw[if_pos hge];have:l=r':=by omega
    subst this;exact AJ ⟨rfl,l,l,rfl,hrk,hlo,hhi⟩
   ·rw[if_neg hge];refine AF (sC K hB' hk (by omega) ?_)
    by_cases hless:rkA r (AK st'') (lo+k)<rkA r (AK st'') (lo+(l+r') / 2)
    ·simp only[hless,decide_true,if_true];refine AJ ⟨rfl,l,(l+r') / 2,rfl,by omega,by omega,by omega,hlo,λi h1 h2=> ?_⟩
     by_cases e:i=(l+r') / 2
     ·rw[e];exact hless
     ·exact pC hless (hs' _ _ (by omega) (by omega) (by omega))
    ·simp only[hless,decide_false,aR,if_false];have ne:=hB'.ne K (i:=lo+k) (j:=lo+(l+r') / 2) hk (by omega) (by omega);have hl:rkA r (AK st'') (lo+(l+r') / 2)<rkA r (AK st'') (lo+k):=by omega
     refine AJ ⟨rfl,(l+r') / 2+1,r',rfl,by omega,by omega,by omega,λi h1=> ?_,hhi⟩
     by_cases e:i=(l+r') / 2
     ·rw[e];exact hl
     ·exact pC (hs' _ _ (by omega) (by omega) (by omega)) hl
  case ipost=>
   rintro c st'' ⟨rfl,l,r',rfl,hlk,hlo,hhi⟩;show wpS _ _ _ _ (do moveDown' (lo+k) (lo+l);pure (ForInStep.yield (none,()))) _ _;rw[moveDown'_eq];have hks:lo+k<(AK st'').size:=by rw[hB'.size];exact hk
   have ed:lo+k-(lo+l)=k-l:=by omega
   rw[ed];refine AF (BC (AJ ⟨rfl,S.trans ⟨hB'.setArr (bubble_perm _ _ _),rfl,λi hi=> ?_⟩, ?_⟩))
   ·show(bubble (AK st'') (lo+k) (k-l))[i]? =_;rw[getElem?_bubble hks _ (by omega),if_neg (by omega),if_neg (by omega)]
   rw[show min (k+1) n=k+1 by omega];intro i j hi hij hj;show rkA r (bubble (AK st'') (lo+k) (k-l)) i<rkA r (bubble (AK st'') (lo+k) (k-l)) j;rw[yM hks (by omega),yM hks (by omega),show lo+k-(k-l)=lo+l by omega]
   have hlo':∀i,lo<=i->i<lo+l->rkA r (AK st'') i<rkA r (AK st'') (lo+k):=λi a b=>by
    have:=hlo (i-lo) (by omega)
    rwa[show lo+(i-lo)=i by omega] at this
   have hhi':∀i,lo+l<=i->i<lo+k->rkA r (AK st'') (lo+k)<rkA r (AK st'') i:=λi a b=>by
    have:=hhi (i-lo) (by omega) (by omega)
    rwa[show lo+(i-lo)=i by omega] at this
   repeat' split
   all_goals first
    |(exfalso;omega)
    |exact hlo' _ (by omega) (by omega)
    |exact hhi' _ (by omega) (by omega)
    |exact hs' _ _ (by omega) (by omega) (by omega)
end
noncomputable def mG:Bool->AI->Array AI->Nat->Nat->Nat->StateT BV Sem (Option Nat):=sortPriv%PySem.Builtin.gallop
noncomputable def bey(left:Bool)(key:AI)(arr:Array AI)(base i:Nat):StateT BV Sem (Option Bool):=do
  let x <-elem' arr (base+i)
  if left then lt' x key else return (<-lt' key x).map (!·)
theorem aCh(left:Bool)(key:AI)(arr:Array AI)(base n hint:Nat):mG left key arr base n hint=(do
 let mut lastofs:=0
 let mut ofs:=1
 let mut lo:=0
 let mut hi:=0
 let some right <-bey left key arr base hint|return none
 if right then
  let maxofs:=n-hint
  for _ in[0:n] do
   if ofs>=maxofs then break
   let some more <-bey left key arr base (hint+ofs)|return none
   if !more then break
   lastofs:=ofs
   ofs:=2*ofs+1
  lo:=hint+lastofs+1
  hi:=hint+min ofs maxofs
 else
  let maxofs:=hint+1
  for _ in[0:n] do
   if ofs>=maxofs then break
   let some found <-bey left key arr base (hint-ofs)|return none
   if found then break
   lastofs:=ofs
   ofs:=2*ofs+1
  lo:=hint+1-min ofs maxofs
  hi:=hint-lastofs
 for _ in[0:n] do
  if lo>=hi then break
  let m:=lo+(hi-lo) / 2
  let some more <-bey left key arr base m|return none
  if more then lo:=m+1 else hi:=m
 return some hi):=rfl
section
variable {prog:AG}{w:AL}{A:BR}{E:BO->BP->Prop}{s:BP}{κ:Ap}{r:AI->Nat}{a₀:Array AI}{st st':BV}
theorem rW{left:Bool}{key:AI}{xs:Array AI}{base i:Nat}{Q:Option Bool->BV->Prop}(K:lG prog w A E s κ r a₀)(hk:kindOf st=κ)(mx:∀x∈xs.toList,x∈a₀.toList)(mk:key∈a₀.toList)(hi:base+i<xs.size)(ne:rkA r xs (base+i)≠r key)
  (h:Q (some (decide (rkA r xs (base+i)<r key))) st):wpS (AE prog w) A E s (bey left key xs base i) Q st:=by
 unfold bey;refine AF (eO hi ?_);have m1:xs[base+i]∈a₀.toList:=mx _ (by simp);rw[eG hi] at h ne;cases left with
 |true=>exact K.ask m1 mk hk h
 |false=>
  refine AF (K.ask mk m1 hk (AJ ?_))
  have e:(!decide (r key<r xs[base+i]))=decide (r xs[base+i]<r key):=by
   by_cases q:r xs[base+i]<r key
   ·rw[decide_eq_true q,decide_eq_false (by omega)];rfl
   ·rw[decide_eq_false q,decide_eq_true (by omega)];rfl
  show Q (some (!decide (r key<r xs[base+i]))) st;rw[e];exact h
theorem AscR.le{xs:Array AI}{base n:Nat}(a:AscR r xs base (base+n)){i j:Nat}(hij:i<=j)(hj:j<n):rkA r xs (base+i)<=rkA r xs (base+j):=by
 by_cases e:i=j
 ·rw[e];exact aM _
 ·exact cW (a _ _ (by omega) (by omega) (by omega))
theorem pJ{left:Bool}{key:AI}{xs:Array AI}{base n hint:Nat}{Q:Option Nat->BV->Prop}(K:lG prog w A E s κ r a₀)(hk:kindOf st=κ)(mx:∀x∈xs.toList,x∈a₀.toList)(mk:key∈a₀.toList)(hx:base+n<=xs.size)(hh:hint<n)
  (asc:AscR r xs base (base+n)) (ne:∀i,i<n->rkA r xs (base+i)≠r key)
  (h:∀k,k<=n->(∀i,i<k->rkA r xs (base+i)<r key)->(∀i,k<=i->i<n->r key<rkA r xs (base+i))->Q (some k) st):wpS (AE prog w) A E s (mG left key xs base n hint) Q st:=by
 rw[aCh];refine AF (rW K hk mx mk (by omega) (ne _ hh) ?_)
 by_cases q:rkA r xs (base+hint)<r key
 ·simp only[q,decide_true,if_true]
  refine AF (Aa (AU (I:=fun x c st'=>st'=st∧∃last ofs,c=(none,last,ofs)∧last<ofs∧x+1≤ofs∧hint+last<n∧rkA r xs (base+(hint+last))<r key)
   (Q:=λc st'=>st'=st/\∃last ofs,c=(none,last,ofs)/\last<ofs/\hint+last<n/\rkA r xs (base+(hint+last))<r key/\(n-hint<=ofs\/(hint+ofs<n/\r key<rkA r xs (base+(hint+ofs))))) ?step ?fin ⟨rfl,0,1,rfl,by omega,by omega,hh,q⟩) ?post)
  case fin=>rintro c st' ⟨rfl,last,ofs,rfl,a,b,c,d⟩;exact⟨rfl,last,ofs,rfl,a,c,d,.inl (by omega)⟩
  case step=>
   rintro x c st' _ hxn ⟨rfl,last,ofs,rfl,a,b,c,d⟩;dsimp only
   by_cases z:ofs>=n-hint
   ·rw[if_pos z];exact AJ ⟨rfl,last,ofs,rfl,a,c,d,.inl z⟩
   ·rw[if_neg z];refine AF (rW K hk mx mk (by omega) (ne _ (by omega)) ?_)
    by_cases y:rkA r xs (base+(hint+ofs))<r key
    ·simp only[y,decide_true,jW,aR,if_false];exact AJ ⟨rfl,ofs,2*ofs+1,rfl,by omega,by omega,by omega,y⟩
    ·simp only[y,decide_false,qE,if_true];have y':=ne (hint+ofs) (by omega);exact AJ ⟨rfl,last,ofs,rfl,a,c,d,.inr ⟨by omega,by omega⟩⟩
  case post=>
   rintro c st' ⟨rfl,last,ofs,rfl,a,b,c,d⟩;dsimp only;have l1:hint+last+1<=hint+min ofs (n-hint):=by omega
   have l2:hint+min ofs (n-hint)<=n:=by omega
   have hl:∀i,i<hint+last+1->rkA r xs (base+i)<r key:=λi hi=>bQ (asc.le (by omega) b) c
   have hg:∀i,hint+min ofs (n-hint)<=i->i<n->r key<rkA r xs (base+i):=λi h1 h2=>by
    rcases d with d|⟨d1,d2⟩
    ·omega
    ·exact aY d2 (asc.le (by omega) h2)
   refine AF (Aa (AU (I:=fun x c st''=>st''=st'∧∃lo hi,c=(none,lo,hi)∧lo≤hi∧hi≤n∧hi - lo≤n - x∧(∀i,i<lo→rkA r xs (base+i)<r key)∧(∀i,hi≤i→i<n→r key<rkA r xs (base+i)))
    (Q:=λc st''=>st''=st'/\∃k,c=(none,k,k)/\k<=n/\(∀i,i<k->rkA r xs (base+i)<r key)/\(∀i,k<=i->i<n->r key<rkA r xs (base+i))) ?step ?fin ⟨rfl,_,_,rfl,l1,l2,by omega,hl,hg⟩) ?post)
   case post=>rintro c st'' ⟨rfl,k,rfl,a,b,c⟩;exact AJ (h k a b c)
   case fin=>
    rintro c st'' ⟨rfl,lo,hi,rfl,a,b,c,d,e⟩;have:lo=hi:=by omega
    subst this;exact⟨rfl,lo,rfl,b,d,e⟩
   case step=>
    rintro x c st'' _ hxn ⟨rfl,lo,hi,rfl,a,b,c,d,e⟩;dsimp only
    by_cases q:lo>=hi
    ·rw[if_pos q];have:lo=hi:=by omega
     subst this;exact AJ ⟨rfl,lo,rfl,b,d,e⟩
    ·rw[if_neg q];refine AF (rW K hk mx mk (by omega) (ne _ (by omega)) ?_)
     by_cases z:rkA r xs (base+(lo+(hi-lo) / 2))<r key
     ·simp only[z,decide_true,if_true];refine AJ ⟨rfl,lo+(hi-lo) / 2+1,hi,rfl,by omega,b,by omega,λi hi'=> ?_,e⟩;exact bQ (asc.le (by omega) (by omega)) z
     ·simp only[z,decide_false,aR,if_false];have z':=ne (lo+(hi-lo) / 2) (by omega);refine AJ ⟨rfl,lo,lo+(hi-lo) / 2,rfl,by omega,by omega,by omega,d,λi h1 h2=> ?_⟩;exact aY (by omega) (asc.le h1 h2)
 ·simp only[q,decide_false,aR,if_false];have q':=ne hint hh
  refine AF (Aa (AU (I:=fun x c st'=>st'=st∧∃last ofs,c=(none,last,ofs)∧last<ofs∧x+1≤ofs∧last≤hint∧r key<rkA r xs (base+(hint - last)))
   (Q:=λc st'=>st'=st/\∃last ofs,c=(none,last,ofs)/\last<ofs/\last<=hint/\r key<rkA r xs (base+(hint-last))/\(hint+1<=ofs\/(ofs<=hint/\rkA r xs (base+(hint-ofs))<r key))) ?step ?fin ⟨rfl,0,1,rfl,by omega,by omega,by omega,by rw[Nat.sub_zero];omega⟩) ?post)
  case fin=>rintro c st' ⟨rfl,last,ofs,rfl,a,b,c,d⟩;exact⟨rfl,last,ofs,rfl,a,c,d,.inl (by omega)⟩
  case step=>
   rintro x c st' _ hxn ⟨rfl,last,ofs,rfl,a,b,c,d⟩;dsimp only
   by_cases z:ofs>=hint+1
   ·rw[if_pos z];exact AJ ⟨rfl,last,ofs,rfl,a,c,d,.inl z⟩
   ·rw[if_neg z];refine AF (rW K hk mx mk (by omega) (ne _ (by omega)) ?_)
    by_cases y:rkA r xs (base+(hint-ofs))<r key
    ·simp only[y,decide_true,if_true];exact AJ ⟨rfl,last,ofs,rfl,a,c,d,.inr ⟨by omega,y⟩⟩
    ·simp only[y,decide_false,aR,if_false];have y':=ne (hint-ofs) (by omega);exact AJ ⟨rfl,ofs,2*ofs+1,rfl,by omega,by omega,by omega,by omega⟩
  case post=>
   rintro c st' ⟨rfl,last,ofs,rfl,a,b,c,d⟩;dsimp only;have l1:hint+1-min ofs (hint+1)<=hint-last:=by omega
   have l2:hint-last<=n:=by omega
   have hl:∀i,i<hint+1-min ofs (hint+1)->rkA r xs (base+i)<r key:=λi hi=>by
    rcases d with d|⟨d1,d2⟩
    ·omega
    ·exact bQ (asc.le (by omega) (by omega)) d2
   have hg:∀i,hint-last<=i->i<n->r key<rkA r xs (base+i):=λi h1 h2=>aY c (asc.le (by omega) h2)
   refine AF (Aa (AU (I:=fun x c st''=>st''=st'∧∃lo hi,c=(none,lo,hi)∧lo≤hi∧hi≤n∧hi - lo≤n - x∧(∀i,i<lo→rkA r xs (base+i)<r key)∧(∀i,hi≤i→i<n→r key<rkA r xs (base+i)))
    (Q:=λc st''=>st''=st'/\∃k,c=(none,k,k)/\k<=n/\(∀i,i<k->rkA r xs (base+i)<r key)/\(∀i,k<=i->i<n->r key<rkA r xs (base+i))) ?step ?fin ⟨rfl,_,_,rfl,l1,l2,by omega,hl,hg⟩) ?post)
   case post=>rintro c st'' ⟨rfl,k,rfl,a,b,c⟩;exact AJ (h k a b c)
   case fin=>
    rintro c st'' ⟨rfl,lo,hi,rfl,a,b,c,d,e⟩;have:lo=hi:=by omega
    subst this;exact⟨rfl,lo,rfl,b,d,e⟩
   case step=>
    rintro x c st'' _ hxn ⟨rfl,lo,hi,rfl,a,b,c,d,e⟩;dsimp only
    by_cases q:lo>=hi
    ·rw[if_pos q];have:lo=hi:=by omega
     subst this;exact AJ ⟨rfl,lo,rfl,b,d,e⟩
    ·rw[if_neg q];refine AF (rW K hk mx mk (by omega) (ne _ (by omega)) ?_)
     by_cases z:rkA r xs (base+(lo+(hi-lo) / 2))<r key
     ·simp only[z,decide_true,if_true];refine AJ ⟨rfl,lo+(hi-lo) / 2+1,hi,rfl,by omega,b,by omega,λi hi'=> ?_,e⟩;exact bQ (asc.le (by omega) (by omega)) z
     ·simp only[z,decide_false,aR,if_false];have z':=ne (lo+(hi-lo) / 2) (by omega);refine AJ ⟨rfl,lo,lo+(hi-lo) / 2,rfl,by omega,by omega,by omega,d,λi h1 h2=> ?_⟩;exact aY (by omega) (asc.le h1 h2)
end
structure MS(r:AI->Nat)(a b:Array AI)(out:List AI)(ia ib:Nat):Prop where
 ha:ia<=a.size
 hb:ib<=b.size
 perm:out.Perm (a.toList.take ia++b.toList.take ib)
 asc:(out.map r).Pairwise (·<·)
 la:∀x∈out,∀i,ia<=i->i<a.size->r x<rkA r a i
 lb:∀x∈out,∀i,ib<=i->i<b.size->r x<rkA r b i
def MD(r:AI->Nat)(a b:Array AI)(out:List AI):Prop:=out.Perm (a.toList++b.toList)/\(out.map r).Pairwise (·<·)
section
variable {r:AI->Nat}{a b:Array AI}{out:List AI}{ia ib:Nat}
theorem MS.swap(m:MS r a b out ia ib):MS r b a out ib ia:=⟨m.hb,m.ha,m.perm.trans iZ,m.asc,m.lb,m.la⟩
theorem MS.pushA(m:MS r a b out ia ib)(h:ia<a.size)(asa:AscR r a 0 a.size)(hb:∀j,ib<=j->j<b.size->rkA r a ia<rkA r b j):MS r a b (out++[a[ia]]) (ia+1) ib:=by
 refine⟨h,m.hb, ?_, ?_,λx hx i h1 h2=> ?_,λx hx i h1 h2=> ?_⟩
 ·have e:a.toList.take (ia+1)=a.toList.take ia++[a[ia]]:=by rw[fD];simp[h]
  rw[e,dY];refine(m.perm.append_right _).trans ?_;rw[dY];exact List.Perm.append_left _ iZ
 ·rw[aP,fO];refine⟨m.asc,kE _ _,λx hx y hy=> ?_⟩;obtain⟨z,hz,rfl⟩:=aO.mp hx;have:y=r a[ia]:=by simpa using hy
  rw[this,<-eG (r:=r) h];exact m.la z hz ia (aM _) h
 ·rcases bC.mp hx with hx|hx
  ·exact m.la x hx i (by omega) h2
  ·rw[aJ.mp hx,<-eG (r:=r) h];exact asa ia i (bS _) (by omega) h2
 ·rcases bC.mp hx with hx|hx
  ·exact m.lb x hx i h1 h2
  ·rw[aJ.mp hx,<-eG (r:=r) h];exact hb i h1 h2
theorem MS.pushB(m:MS r a b out ia ib)(h:ib<b.size)(asb:AscR r b 0 b.size)(hb:∀j,ia<=j->j<a.size->rkA r b ib<rkA r a j):MS r a b (out++[b[ib]]) ia (ib+1):=(m.swap.pushA h asb hb).swap
theorem aFW{k:Nat}(h:ia+k<a.size):(a.extract ia (ia+(k+1))).toList=(a.extract ia (ia+k)).toList++[a[ia+k]]:=by simp only[eC,cY];rw[show ia+(k+1)-ia=k+1 by omega,show ia+k-ia=k by omega,fD];simp[h]
theorem aGh(i:Nat):(a.extract i (i+0)).toList=[]:=by simp[eC,cY]
theorem MS.extA(asa:AscR r a 0 a.size)(m:MS r a b out ia ib):∀k,ia+k<=a.size->(∀i,i<k->∀j,ib<=j->j<b.size->rkA r a (ia+i)<rkA r b j)->MS r a b (out++(a.extract ia (ia+k)).toList) (ia+k) ib
 |0,_,_=>by rw[aGh,dM];exact m
 |k+1,h,hb=>by
  have ih:=MS.extA asa m k (by omega) λi hi=>hb i (by omega)
  rw[aFW (by omega),<-dY];exact ih.pushA (by omega) asa (hb k (by omega))
theorem MS.extB(asb:AscR r b 0 b.size)(m:MS r a b out ia ib)(k:Nat)(h:ib+k<=b.size)(hb:∀i,i<k->∀j,ia<=j->j<a.size->rkA r b (ib+i)<rkA r a j):MS r a b (out++(b.extract ib (ib+k)).toList) ia (ib+k):=(m.swap.extA asb k h hb).swap
theorem MS.done(m:MS r a b out a.size b.size):MD r a b out:=by refine⟨?_,m.asc⟩;have:=m.perm;rw[fV (by simp),fV (by simp)] at this;exact this
theorem MS.finA(m:MS r a b out ia b.size)(asa:AscR r a 0 a.size):MD r a b (out++(a.extract ia a.size).toList):=by
 have h:=m.ha;have:=m.extA asa (a.size-ia) (by omega) λi hi j h1 h2=>by omega
 rw[show ia+(a.size-ia)=a.size by omega] at this;exact this.done
theorem MS.finL(m:MS r a b out ia ib)(asa:AscR r a 0 a.size)(asb:AscR r b 0 b.size)(h1:ia+1=a.size)(hab:∀j,j<b.size->rkA r b j<rkA r a (a.size-1)):MD r a b (out++(b.extract ib b.size).toList++(a.extract ia a.size).toList):=by
 have h:=m.hb
 have:=m.extB asb (b.size-ib) (by omega) λi hi j h1 h2=>by
  have e:j=a.size-1:=by omega
  rw[e];exact hab _ (by omega)
 rw[show ib+(b.size-ib)=b.size by omega] at this;exact this.finA asa
theorem aJM(i:Nat)(h:a.size<=i):(a.extract i a.size).toList=[]:=by
 rw[eC,cY];have:a.size-i=0:=by omega
 rw[this];rfl
end
noncomputable def setG(st:BV)(g:Nat):BV:=SortSt.mk' (kindOf st) (AK st) (AC st) g (failedOf st)
noncomputable def jM:Nat->StateT BV Sem Unit:=sortPriv%PySem.Builtin.setMinGallop
theorem jF(g:Nat):jM g=modify λs=>setG s g:=rfl
noncomputable def uW:Array AI->Array AI->StateT BV Sem (Array AI):=sortPriv%PySem.Builtin.mergeLo
structure SameG(st st':BV):Prop where
 kind:kindOf st'=kindOf st
 arr:AK st'=AK st
 pend:AC st'=AC st
 failed:failedOf st'=failedOf st
theorem SameG.refl(st:BV):SameG st st:=⟨rfl,rfl,rfl,rfl⟩
theorem SameG.set{st st':BV}(h:SameG st st')(g:Nat):SameG st (setG st' g):=⟨h.kind,h.arr,h.pend,h.failed⟩
structure MPre(r:AI->Nat)(a₀ a b:Array AI):Prop where
 a1:1<=a.size
 b1:1<=b.size
 asa:AscR r a 0 a.size
 asb:AscR r b 0 b.size
 ma:∀x∈a.toList,x∈a₀.toList
 mb:∀x∈b.toList,x∈a₀.toList
 ne:∀i j,i<a.size->j<b.size->rkA r a i≠rkA r b j
 first:rkA r b 0<rkA r a 0
 last:rkA r b (b.size-1)<rkA r a (a.size-1)
theorem AscR.le0{r:AI->Nat}{xs:Array AI}{n i j:Nat}(a:AscR r xs 0 n)(hij:i<=j)(hj:j<n):rkA r xs i<=rkA r xs j:=by
 by_cases e:i=j
 ·rw[e];exact aM _
 ·exact cW (a _ _ (by omega) (by omega) (by omega))
noncomputable abbrev SM:=StateT BV Sem
noncomputable abbrev ML1:=Option (Array AI)×Array AI×Nat×Nat×Nat×Nat
noncomputable abbrev ML2:=Option (Array AI)×Array AI×Nat×Nat×Nat×Nat×Nat
noncomputable abbrev ML0:=Option (Array AI)×Array AI×Nat×Nat×Nat
noncomputable def dnA(a b out:Array AI)(ia ib:Nat):Array AI:=out++a.extract ia a.size++b.extract ib b.size
noncomputable def lsA(a b out:Array AI)(ia ib:Nat):Array AI:=out++b.extract ib b.size++a.extract ia a.size
noncomputable def lo1(a b:Array AI)(mg:Nat)(c:ML1):SM (ForInStep ML1):=do
 let y <-elem' b c.2.2.2.1
 let x <-elem' a c.2.2.1
 let q <-lt' y x
 match q with
 |some bw=>
  if bw=true then do
   let y <-elem' b c.2.2.2.1
   if(c.2.2.2.1+1==b.size)=true then pure (.done (some (dnA a b (c.2.1.push y) c.2.2.1 (c.2.2.2.1+1)),c.2.1.push y,c.2.2.1,c.2.2.2.1+1,0,c.2.2.2.2.2+1))
   else if c.2.2.2.2.2+1>=mg then pure (.done (none,c.2.1.push y,c.2.2.1,c.2.2.2.1+1,0,c.2.2.2.2.2+1))
   else pure (.yield (none,c.2.1.push y,c.2.2.1,c.2.2.2.1+1,0,c.2.2.2.2.2+1))
  else do
   let x <-elem' a c.2.2.1
   if(c.2.2.1+1+1==a.size)=true then pure (.done (some (lsA a b (c.2.1.push x) (c.2.2.1+1) c.2.2.2.1),c.2.1.push x,c.2.2.1+1,c.2.2.2.1,c.2.2.2.2.1+1,0))
   else if c.2.2.2.2.1+1>=mg then pure (.done (none,c.2.1.push x,c.2.2.1+1,c.2.2.2.1,c.2.2.2.2.1+1,0))
   else pure (.yield (none,c.2.1.push x,c.2.2.1+1,c.2.2.2.1,c.2.2.2.2.1+1,0))
 |_=>pure (.done (some (dnA a b c.2.1 c.2.2.1 c.2.2.2.1),c.2.1,c.2.2.1,c.2.2.2.1,c.2.2.2.2.1,c.2.2.2.2.2))
noncomputable def aNm(a b out:Array AI)(ia ib mg k k1:Nat):SM (ForInStep ML2):=do
 let x <-elem' a ia
 if(ia+1+1==a.size)=true then pure (.done (some (lsA a b (out.push x) (ia+1) ib),out.push x,ia+1,ib,mg,k,k1))
 else if(decide (k<7)&&decide (k1<7))=true then pure (.done (none,out.push x,ia+1,ib,mg,k,k1))
 else pure (.yield (none,out.push x,ia+1,ib,mg,k,k1))
noncomputable def aNn(a b out:Array AI)(ia ib mg k bc:Nat):SM (ForInStep ML2):=do
 let y <-elem' b ib
 if(ib+1==b.size)=true then pure (.done (some (dnA a b (out.push y) ia (ib+1)),out.push y,ia,ib+1,mg,k,bc))
 else do
  let x <-elem' a ia
  let q <-mG true x b (ib+1) (b.size-(ib+1)) 0
  match q with
  |some k1=>
   if k1>0 then
    if(ib+1+k1==b.size)=true then pure (.done (some (dnA a b (out.push y++b.extract (ib+1) (ib+1+k1)) ia (ib+1+k1)),out.push y++b.extract (ib+1) (ib+1+k1),ia,ib+1+k1,mg,k,k1))
    else aNm a b (out.push y++b.extract (ib+1) (ib+1+k1)) ia (ib+1+k1) mg k k1
   else aNm a b (out.push y) ia (ib+1) mg k k1
  |_=>pure (.done (some (dnA a b (out.push y) ia (ib+1)),out.push y,ia,ib+1,mg,k,bc))
noncomputable def aKU(a b out:Array AI)(ia ib mg ac bc:Nat):SM (ForInStep ML2):=do
 jM mg
 let y <-elem' b ib
 let q <-mG false y a ia (a.size-ia) 0
 match q with
 |some k=>
  if k>0 then
   if(ia+k+1==a.size)=true then pure (.done (some (lsA a b (out++a.extract ia (ia+k)) (ia+k) ib),out++a.extract ia (ia+k),ia+k,ib,mg,k,bc))
   else if(ia+k==a.size)=true then pure (.done (some (dnA a b (out++a.extract ia (ia+k)) (ia+k) ib),out++a.extract ia (ia+k),ia+k,ib,mg,k,bc))
   else aNn a b (out++a.extract ia (ia+k)) (ia+k) ib mg k bc
  else aNn a b out ia ib mg k bc
 |_=>pure (.done (some (dnA a b out ia ib),out,ia,ib,mg,ac,bc))
noncomputable def lo2(a b:Array AI)(c:ML2):SM (ForInStep ML2):=
 if c.2.2.2.2.1>1 then aKU a b c.2.1 c.2.2.1 c.2.2.2.1 (c.2.2.2.2.1-1) c.2.2.2.2.2.1 c.2.2.2.2.2.2
 else aKU a b c.2.1 c.2.2.1 c.2.2.2.1 c.2.2.2.2.1 c.2.2.2.2.2.1 c.2.2.2.2.2.2
noncomputable def lo0(a b:Array AI)(c:ML0):SM (ForInStep ML0):=do
 let d <-forIn [:a.size+b.size] ((none,c.2.1,c.2.2.1,c.2.2.2.1,0,0):ML1) λ_ d=>lo1 a b c.2.2.2.2 d
 match d.1 with
 |some r=>pure (.done (some r,d.2.1,d.2.2.1,d.2.2.2.1,c.2.2.2.2))
 |none=>do
  liftM (rule "list.sort.gallop")
  let e <-forIn [:a.size+b.size] ((none,d.2.1,d.2.2.1,d.2.2.2.1,c.2.2.2.2+1,d.2.2.2.2.1,d.2.2.2.2.2):ML2) λ_ e=>lo2 a b e
  match e.1 with
  |some r=>pure (.done (some r,e.2.1,e.2.2.1,e.2.2.2.1,e.2.2.2.2.1))
  |none=>do
   jM (e.2.2.2.2.1+1)
   pure (.yield (none,e.2.1,e.2.2.1,e.2.2.2.1,e.2.2.2.2.1+1))
noncomputable def loM(a b:Array AI):SM (Array AI):=do
 liftM (rule "list.sort.merge-lo")
 let y <-elem' b 0
 if(1==b.size)=true then pure (dnA a b #[y] 0 1)
 else if(0+1==a.size)=true then pure (lsA a b #[y] 0 1)
 else do
  let g <-get
  let c <-forIn [:a.size+b.size] ((none, #[y],0,1,gallopOf g):ML0) λ_ c=>lo0 a b c
  match c.1 with
  |some r=>pure r
  |none=>liftM (unsupported "internal:list.sort.merge-bound":Sem (Array AI))
theorem aMB(a b:Array AI):uW a b=loM a b:=by kernel_rfl
def FIN(r:AI->Nat)(a b:Array AI)(o:Option (Array AI)):Prop:=∃res,o=some res/\MD r a b res.toList
def OKm(r:AI->Nat)(a b:Array AI)(N:Nat)(o:Option (Array AI))(out:Array AI)(ia ib:Nat):Prop:=o=none/\MS r a b out.toList ia ib/\ia+1<a.size/\ib<b.size/\N<=ia+ib
theorem OKm.mono{r:AI->Nat}{a b:Array AI}{N N':Nat}{o:Option (Array AI)}{out:Array AI}{ia ib:Nat}(h:OKm r a b N o out ia ib)(le:N'<=N):OKm r a b N' o out ia ib:=⟨h.1,h.2.1,h.2.2.1,h.2.2.2.1,cO le h.2.2.2.2⟩
section
variable {prog:AG}{w:AL}{A:BR}{E:BO->BP->Prop}{s:BP}{κ:Ap}{r:AI->Nat}{a₀ a b out:Array AI}{st st0:BV}{ia ib:Nat}
theorem MPre.last'(M:MPre r a₀ a b):∀j,j<b.size->rkA r b j<rkA r a (a.size-1):=λj hj=>bQ (M.asb.le0 (by omega) (by omega)) M.last
theorem aAQ(M:MPre r a₀ a b)(m:MS r a b out.toList ia ib)(h:ib=b.size):FIN r a b (some (dnA a b out ia ib)):=by subst h;refine⟨_,rfl, ?_⟩;have:=m.finA M.asa;unfold dnA;rw[dH,dH,aJM _ (aM _),dM];exact this
theorem aAS(M:MPre r a₀ a b)(m:MS r a b out.toList ia ib)(h:ia+1=a.size):FIN r a b (some (lsA a b out ia ib)):=by refine⟨_,rfl, ?_⟩;have:=m.finL M.asa M.asb h M.last';unfold lsA;rw[dH,dH];exact this
theorem MS.pushA'(M:MPre r a₀ a b)(m:MS r a b out.toList ia ib)(h:ia<a.size)(hb:∀j,ib<=j->j<b.size->rkA r a ia<rkA r b j):MS r a b (out.push a[ia]).toList (ia+1) ib:=by rw[jA];exact m.pushA h M.asa hb
theorem MS.pushB'(M:MPre r a₀ a b)(m:MS r a b out.toList ia ib)(h:ib<b.size)(hb:∀j,ia<=j->j<a.size->rkA r b ib<rkA r a j):MS r a b (out.push b[ib]).toList ia (ib+1):=by rw[jA];exact m.pushB h M.asb hb
theorem MS.extA'(M:MPre r a₀ a b)(m:MS r a b out.toList ia ib){k:Nat}(h:ia+k<=a.size)(hb:∀i,i<k->∀j,ib<=j->j<b.size->rkA r a (ia+i)<rkA r b j):MS r a b (out++a.extract ia (ia+k)).toList (ia+k) ib:=by rw[dH];exact m.extA M.asa k h hb
theorem MS.extB'(M:MPre r a₀ a b)(m:MS r a b out.toList ia ib){k:Nat}(h:ib+k<=b.size)(hb:∀i,i<k->∀j,ia<=j->j<a.size->rkA r b (ib+i)<rkA r a j):MS r a b (out++b.extract ib (ib+k)).toList ia (ib+k):=by rw[dH];exact m.extB M.asb k h hb
def P2(r:AI->Nat)(a b:Array AI)(st0:BV)(N:Nat):ForInStep ML2->BV->Prop:=λq st'=>SameG st0 st'/\match q with
 |.done c=>FIN r a b c.1\/OKm r a b N c.1 c.2.1 c.2.2.1 c.2.2.2.1
 |.yield c=>OKm r a b N c.1 c.2.1 c.2.2.1 c.2.2.2.1
theorem aDv{N mg k k1:Nat}(M:MPre r a₀ a b)(S:SameG st0 st)(m:MS r a b out.toList ia ib)(h1:ia+1<a.size)(h2:ib<b.size)(hN:N<=ia+1+ib)(hb:∀j,ib<=j->j<b.size->rkA r a ia<rkA r b j):wpS (AE prog w) A E s (aNm a b out ia ib mg k k1) (P2 r a b st0 N) st:=by
 unfold aNm;refine AF (eO (by omega) ?_);have m2:=m.pushA' M (by omega) hb
 by_cases e:ia+1+1=a.size
 ·rw[if_pos (by simpa using e)];exact AJ ⟨S,.inl (aAS M m2 e)⟩
 ·rw[if_neg (by simpa using e)]
  split
  ·exact AJ ⟨S,.inr ⟨rfl,m2,by show ia+1+1<_;omega,h2,hN⟩⟩
  ·exact AJ ⟨S,rfl,m2,by show ia+1+1<_;omega,h2,hN⟩
theorem aDM{N mg k bc:Nat}(K:lG prog w A E s κ r a₀)(hk:kindOf st0=κ)(M:MPre r a₀ a b)(S:SameG st0 st)(m:MS r a b out.toList ia ib)(h1:ia+1<a.size)(h2:ib<b.size)(hN:N<=ia+1+ib)(hb:∀j,ia<=j->j<a.size->rkA r b ib<rkA r a j):wpS (AE prog w) A E s (aNn a b out ia ib mg k bc) (P2 r a b st0 N) st:=by
 unfold aNn;refine AF (eO (by omega) ?_);have m2:=m.pushB' M h2 hb
 by_cases e:ib+1=b.size
 ·rw[if_pos (by simpa using e)];exact AJ ⟨S,.inl (aAQ M m2 e)⟩
 ·rw[if_neg (by simpa using e)];have h1':ia<a.size:=by omega
  refine AF (eO h1' (AF (pJ K (S.kind.trans hk) M.mb (M.ma _ (by simp)) (by omega) (by omega) (λi j h1 h2 h3=>M.asb i j (by omega) h2 (by omega)) (λi hi e=>M.ne ia (ib+1+i) h1' (by omega) (by rw[e,eG h1'])) λk1 c1 c2 c3=> ?_)));dsimp only;rw[<-eG (r:=r) h1'] at c2 c3;have m3:=m2.extB' M (k:=k1) (by omega) λi hi j j1 j2=>aY (c2 i hi) (M.asa.le0 j1 j2)
  have c3':∀j,ib+1+k1<=j->j<b.size->rkA r a ia<rkA r b j:=λj j1 j2=>by
   have:=c3 (j-(ib+1)) (by omega) (by omega)
   rwa[show ib+1+(j-(ib+1))=j by omega] at this
  by_cases z:k1>0
  ·rw[if_pos z]
   by_cases y:ib+1+k1=b.size
   ·rw[if_pos (by simpa using y)];exact AJ ⟨S,.inl (aAQ M m3 y)⟩
   ·rw[if_neg (by simpa using y)];exact aDv M S m3 h1 (by omega) (by omega) c3'
  ·rw[if_neg z];have z0:k1=0:=by omega
   subst z0;exact aDv M S m2 h1 (by omega) (by omega) c3'
theorem aJO{N mg ac bc:Nat}(K:lG prog w A E s κ r a₀)(hk:kindOf st0=κ)(M:MPre r a₀ a b)(S:SameG st0 st)(m:MS r a b out.toList ia ib)(h1:ia+1<a.size)(h2:ib<b.size)(hN:N<=ia+1+ib):wpS (AE prog w) A E s (aKU a b out ia ib mg ac bc) (P2 r a b st0 N) st:=by
 unfold aKU;rw[jF];refine AF (BC ?_);have S:=S.set mg;refine AF (eO h2 (AF (pJ K (S.kind.trans hk) M.ma (M.mb _ (by simp)) (by omega) (by omega) (λi j h1 h2 h3=>M.asa i j (by omega) h2 (by omega)) (λi hi e=>M.ne (ia+i) ib (by omega) h2 (by rw[e,eG h2])) λk c1 c2 c3=> ?_)));dsimp only;rw[<-eG (r:=r) h2] at c2 c3;have m3:=m.extA' M (k:=k) (by omega) λi hi j j1 j2=>aY (c2 i hi) (M.asb.le0 j1 j2)
 have c3':∀j,ia+k<=j->j<a.size->rkA r b ib<rkA r a j:=λj j1 j2=>by
  have:=c3 (j-ia) (by omega) (by omega)
  rwa[show ia+(j-ia)=j by omega] at this
 have kl:ia+k<a.size:=by
  by_cases q:ia+k<a.size
  ·exact q
  ·have:=c2 (a.size-1-ia) (by omega);rw[show ia+(a.size-1-ia)=a.size-1 by omega] at this;have:=M.last' ib h2;omega
 by_cases z:k>0
 ·rw[if_pos z]
  by_cases y:ia+k+1=a.size
  ·rw[if_pos (by simpa using y)];exact AJ ⟨S,.inl (aAS M m3 y)⟩
  ·rw[if_neg (by simpa using y),if_neg (by simp;omega)];exact aDM K hk M S m3 (by omega) h2 (by omega) c3'
 ·rw[if_neg z];have z0:k=0:=by omega
  subst z0;exact aDM K hk M S m (by omega) h2 (by omega) c3'
def P1(r:AI->Nat)(a b:Array AI)(st:BV)(N:Nat):ForInStep ML1->BV->Prop:=λq st'=>st'=st/\match q with
 |.done c=>FIN r a b c.1\/OKm r a b N c.1 c.2.1 c.2.2.1 c.2.2.2.1
 |.yield c=>OKm r a b N c.1 c.2.1 c.2.2.1 c.2.2.2.1
theorem aLR{N mg:Nat}{c:ML1}(K:lG prog w A E s κ r a₀)(hk:kindOf st=κ)(M:MPre r a₀ a b)(h:OKm r a b N c.1 c.2.1 c.2.2.1 c.2.2.2.1):wpS (AE prog w) A E s (lo1 a b mg c) (P1 r a b st (N+1)) st:=by
 obtain⟨o,out,ia,ib,ac,bc⟩:=c;obtain⟨h0,m,h1,h2,hN⟩:=h;dsimp only at h0 m h1 h2 hN;unfold lo1;dsimp only;have h1':ia<a.size:=by omega
 refine AF (eO h2 (AF (eO h1' (AF (K.ask (M.mb _ (by simp)) (M.ma _ (by simp)) hk ?_)))));dsimp only
 by_cases q:r b[ib]<r a[ia]
 ·rw[if_pos (by simpa using q)];refine AF (eO h2 ?_);have q':rkA r b ib<rkA r a ia:=by rw[eG h2,eG h1'];exact q
  have m2:=m.pushB' M h2 λj j1 j2=>aY q' (M.asa.le0 j1 j2)
  by_cases e:ib+1=b.size
  ·rw[if_pos (by simpa using e)];exact AJ ⟨rfl,.inl (aAQ M m2 e)⟩
  ·rw[if_neg (by simpa using e)]
   split
   ·exact AJ ⟨rfl,.inr ⟨rfl,m2,h1,by show ib+1<_;omega,by show _<=ia+(ib+1);omega⟩⟩
   ·exact AJ ⟨rfl,rfl,m2,h1,by show ib+1<_;omega,by show _<=ia+(ib+1);omega⟩
 ·rw[if_neg (by simpa using q)];refine AF (eO h1' ?_)
  have q':rkA r a ia<rkA r b ib:=by have:=M.ne ia ib h1' h2;rw[eG h1',eG h2] at this ⊢;omega
  have m2:=m.pushA' M h1' λj j1 j2=>aY q' (M.asb.le0 j1 j2)
  by_cases e:ia+1+1=a.size
  ·rw[if_pos (by simpa using e)];exact AJ ⟨rfl,.inl (aAS M m2 e)⟩
  ·rw[if_neg (by simpa using e)]
   split
   ·exact AJ ⟨rfl,.inr ⟨rfl,m2,by show ia+1+1<_;omega,h2,by show _<=ia+1+ib;omega⟩⟩
   ·exact AJ ⟨rfl,rfl,m2,by show ia+1+1<_;omega,h2,by show _<=ia+1+ib;omega⟩
def P0(r:AI->Nat)(a b:Array AI)(st0:BV)(N:Nat):ForInStep ML0->BV->Prop:=λq st'=>SameG st0 st'/\match q with
 |.done c=>FIN r a b c.1
 |.yield c=>OKm r a b N c.1 c.2.1 c.2.2.1 c.2.2.2.1
theorem aLT{N:Nat}{c:ML0}(K:lG prog w A E s κ r a₀)(hk:kindOf st0=κ)(M:MPre r a₀ a b)(S:SameG st0 st)(h:OKm r a b N c.1 c.2.1 c.2.2.1 c.2.2.2.1):wpS (AE prog w) A E s (lo0 a b c) (P0 r a b st0 (N+1)) st:=by
 obtain⟨o,out,ia,ib,mg⟩:=c;obtain⟨h0,m,h1,h2,hN⟩:=h;dsimp only at h0 m h1 h2 hN;unfold lo0;dsimp only;refine AF (Aa (AU (I:=λx d st'=>st'=st/\OKm r a b (N+x) d.1 d.2.1 d.2.2.1 d.2.2.2.1) (Q:=λd st'=>st'=st/\(FIN r a b d.1\/OKm r a b (N+1) d.1 d.2.1 d.2.2.1 d.2.2.2.1)) ?step ?fin ⟨rfl,rfl,m,h1,h2,hN⟩) ?post)
 case step=>
  rintro x d st' _ hx ⟨rfl,hd⟩;refine Aa (aLR K (S.kind.trans hk) M hd) λq st'' hq=> ?_
  obtain⟨rfl,hq⟩:=hq;cases q with
  |done d=>exact⟨rfl,hq.imp id λz=>z.mono (by omega)⟩
  |yield d=>exact⟨rfl,hq⟩
 case fin=>rintro d st' ⟨rfl,_,_,h3,h4,h5⟩;omega
 case post=>
  rintro d st' ⟨rfl,hd⟩;obtain⟨o1,out,ia,ib,ac,bc⟩:=d
  rcases hd with⟨res,e,hres⟩|⟨e,m,h1,h2,hN⟩
  ·dsimp only at e;subst e;exact AJ ⟨S,res,rfl,hres⟩
  ·dsimp only at e m h1 h2 hN;subst e;dsimp only;refine AF (wpS_lift (Au ⟨rfl, ?_⟩));refine AF (Aa (AU (I:=λx d st'=>SameG st0 st'/\OKm r a b (N+1+x) d.1 d.2.1 d.2.2.1 d.2.2.2.1) (Q:=λd st'=>SameG st0 st'/\(FIN r a b d.1\/OKm r a b (N+1) d.1 d.2.1 d.2.2.1 d.2.2.2.1)) ?step2 ?fin2 ⟨S,rfl,m,h1,h2,hN⟩) ?post2)
   case step2=>
    rintro x ⟨o2,out,ia,ib,mg,ac,bc⟩ st' _ hx ⟨S,_,m,h1,h2,hN⟩;dsimp only at m h1 h2 hN;have key:∀mg,wpS (AE prog w) A E s (aKU a b out ia ib mg ac bc) (P2 r a b st0 (N+1+(x+1))) st':=λmg=>aJO K hk M S m h1 h2 (by omega)
    unfold lo2;dsimp only
    split<;>
    ·refine Aa (key _) λq st'' hq=> ?_
     obtain⟨S',hq⟩:=hq;cases q with
     |done d=>exact⟨S',hq.imp id λz=>z.mono (by omega)⟩
     |yield d=>exact⟨S',hq⟩
   case fin2=>rintro d st' ⟨_,_,_,h3,h4,h5⟩;omega
   case post2=>
    rintro⟨o2,out,ia,ib,mg,ac,bc⟩ st' ⟨S,hd⟩
    rcases hd with⟨res,e,hres⟩|⟨e,m,h1,h2,hN⟩
    ·dsimp only at e;subst e;exact AJ ⟨S,res,rfl,hres⟩
    ·dsimp only at e m h1 h2 hN;subst e;dsimp only;rw[jF];exact AF (BC (AJ ⟨S.set _,rfl,m,h1,h2,hN⟩))
theorem aAE{Q:Array AI->BV->Prop}(K:lG prog w A E s κ r a₀)(hk:kindOf st=κ)(M:MPre r a₀ a b)
  (h:∀out st',MD r a b out.toList->SameG st st'->Q out st'):wpS (AE prog w) A E s (uW a b) Q st:=by
 rw[aMB];unfold loM;refine AF (wpS_lift (Au ⟨rfl, ?_⟩));have b1:=M.b1;have a1:=M.a1;refine AF (eO (by omega) ?_);have m0:MS r a b (#[]:Array AI).toList 0 0:=⟨by omega,by omega,by simp,by simp,λx hx=>by simp at hx,λx hx=>by simp at hx⟩;have m:MS r a b (#[b[0]]:Array AI).toList 0 1:=m0.pushB' M (by omega) λj j1 j2=>aY M.first (M.asa.le0 j1 j2)
 by_cases e:1=b.size
 ·rw[if_pos (by simpa using e)];obtain⟨res,e2,hr⟩:=aAQ M m e;cases e2;exact AJ (h _ _ hr (.refl _))
 ·rw[if_neg (by simpa using e)]
  by_cases e1:0+1=a.size
  ·rw[if_pos (by simpa using e1)];obtain⟨res,e2,hr⟩:=aAS M m e1;cases e2;exact AJ (h _ _ hr (.refl _))
  ·rw[if_neg (by simpa using e1)];refine AF (wpS_get (AF (Aa (AU (I:=λx d st'=>SameG st st'/\OKm r a b (x+1) d.1 d.2.1 d.2.2.1 d.2.2.2.1) (Q:=λd st'=>SameG st st'/\FIN r a b d.1) ?step ?fin ⟨.refl _,rfl,m,by show 0+1<_;omega,by show 1<_;omega,aM _⟩) ?post)))
   case step=>
    rintro x d st' _ hx ⟨S,hd⟩;refine Aa (aLT K hk M S hd) λq st'' hq=> ?_
    obtain⟨S',hq⟩:=hq;cases q with
    |done d=>exact⟨S',hq⟩
    |yield d=>exact⟨S',hq⟩
   case fin=>rintro d st' ⟨_,_,_,h3,h4,h5⟩;omega
   case post=>rintro d st' ⟨S,res,e,hr⟩;rw[e];exact AJ (h _ _ hr S)
end
structure HS(r:AI->Nat)(a b:Array AI)(out:List AI)(na nb:Nat):Prop where
 ha:na<=a.size
 hb:nb<=b.size
 perm:out.Perm (a.toList.drop na++b.toList.drop nb)
 dsc:(out.map r).Pairwise (λx y=>y<x)
 la:∀x∈out,∀i,i<na->rkA r a i<r x
 lb:∀x∈out,∀i,i<nb->rkA r b i<r x
section
variable {r:AI->Nat}{a b:Array AI}{out:List AI}{na nb:Nat}
theorem HS.swap(m:HS r a b out na nb):HS r b a out nb na:=⟨m.hb,m.ha,m.perm.trans iZ,m.dsc,m.lb,m.la⟩
theorem HS.pushA(m:HS r a b out (na+1) nb)(asa:AscR r a 0 a.size)(hb:∀j,j<nb->rkA r b j<rkA r a na):HS r a b (out++[a[na]'m.ha]) na nb:=by
 have h:na<a.size:=m.ha;refine⟨cW h,m.hb, ?_, ?_,λx hx i h1=> ?_,λx hx i h1=> ?_⟩
 ·have e:a.toList.drop na=a[na]::a.toList.drop (na+1):=by rw[dJ (by simpa using h)];simp
  rw[e,List.cons_append];exact(iZ).trans (List.Perm.cons _ m.perm)
 ·rw[aP,fO];refine⟨m.dsc,kE _ _,λx hx y hy=> ?_⟩;obtain⟨z,hz,rfl⟩:=aO.mp hx;have:y=r a[na]:=by simpa using hy
  rw[this,<-eG (r:=r) h];exact m.la z hz na (jO _)
 ·rcases bC.mp hx with hx|hx
  ·exact m.la x hx i (by omega)
  ·rw[aJ.mp hx,<-eG (r:=r) h];exact asa i na (bS _) h1 h
 ·rcases bC.mp hx with hx|hx
  ·exact m.lb x hx i h1
  ·rw[aJ.mp hx,<-eG (r:=r) h];exact hb i h1
theorem aFL{k:Nat}(h:k+1<=na)(h2:na<=a.size):(a.extract (na-(k+1)) na).toList.reverse=(a.extract (na-k) na).toList.reverse++[a[na-(k+1)]'(by omega)]:=by
 simp only[eC,cY]
 have e:a.toList.drop (na-(k+1))=a[na-(k+1)]'(by omega)::a.toList.drop (na-k):=by rw[dJ (by simp;omega)];rw[show na-(k+1)+1=na-k by omega];simp
 rw[e,show na-(na-(k+1))=(na-(na-k))+1 by omega,aFi,List.reverse_cons]
theorem HS.extA(asa:AscR r a 0 a.size)(m:HS r a b out na nb):∀k,k<=na->(∀i,na-k<=i->i<na->∀j,j<nb->rkA r b j<rkA r a i)->HS r a b (out++(a.extract (na-k) na).toList.reverse) (na-k) nb
 |0,_,_=>by
  have e:(a.extract (na-0) na).toList.reverse=[]:=by simp[eC,cY]
  rw[e,dM];exact m
 |k+1,h,hb=>by
  have ih:=HS.extA asa m k (by omega) λi h1 h2=>hb i (by omega) h2
  rw[aFL h m.ha,<-dY];have e:na-k=na-(k+1)+1:=by omega
  rw[e] at ih;have:=ih.pushA asa (hb (na-(k+1)) (aM _) (by omega));rw[show a.extract (na-k) na=a.extract (na-(k+1)+1) na by rw[e]];exact this
theorem HS.extB(asb:AscR r b 0 b.size)(m:HS r a b out na nb)(k:Nat)(h:k<=nb)(hb:∀i,nb-k<=i->i<nb->∀j,j<na->rkA r a j<rkA r b i):HS r a b (out++(b.extract (nb-k) nb).toList.reverse) na (nb-k):=(m.swap.extA asb k h hb).swap
theorem HS.done(m:HS r a b out 0 0):MD r a b out.reverse:=by
 refine⟨(List.reverse_perm _).trans ?_, ?_⟩
 ·have:=m.perm;simpa using this
 ·rw[List.map_reverse,List.pairwise_reverse];exact m.dsc
theorem HS.finB(m:HS r a b out 0 nb)(asb:AscR r b 0 b.size):MD r a b ((b.extract 0 nb).toList++out.reverse):=by
 have:=m.extB asb nb (aM _) λi h1 h2 j hj=>by omega
 rw[pF] at this;have:=this.done
 rwa[aFj,aFa] at this
theorem HS.finL(m:HS r a b out na 1)(asa:AscR r a 0 a.size)(asb:AscR r b 0 b.size)(first:∀i,i<a.size->rkA r b 0<rkA r a i):MD r a b ((b.extract 0 1).toList++(a.extract 0 na).toList++out.reverse):=by
 have ha:=m.ha
 have:=m.extA asa na (aM _) λi h1 h2 j hj=>by
  have:j=0:=by omega
  subst this;exact first i (by omega)
 rw[pF] at this;have:=this.finB asb
 rwa[aFj,aFa,<-dY] at this
end
noncomputable def wB:Array AI->Array AI->StateT BV Sem (Array AI):=sortPriv%PySem.Builtin.mergeHi
noncomputable abbrev MH1:=Option (Array AI)×Nat×Nat×Array AI×Nat×Nat
noncomputable abbrev MH2:=Option (Array AI)×Nat×Nat×Array AI×Nat×Nat×Nat
noncomputable abbrev MH0:=Option (Array AI)×Nat×Nat×Array AI×Nat
noncomputable def dnH(a b out:Array AI)(na nb:Nat):Array AI:=a.extract 0 na++b.extract 0 nb++out.reverse
noncomputable def fsB(a b out:Array AI)(na nb:Nat):Array AI:=b.extract 0 nb++a.extract 0 na++out.reverse
noncomputable def hi1(a b:Array AI)(mg:Nat)(c:MH1):SM (ForInStep MH1):=do
 let y <-elem' b (c.2.2.1-1)
 let x <-elem' a (c.2.1-1)
 let q <-lt' y x
 match q with
 |some aw=>
  if aw=true then do
   let x <-elem' a (c.2.1-1)
   if(c.2.1-1==0)=true then pure (.done (some (dnH a b (c.2.2.2.1.push x) (c.2.1-1) c.2.2.1),c.2.1-1,c.2.2.1,c.2.2.2.1.push x,c.2.2.2.2.1+1,0))
   else if c.2.2.2.2.1+1>=mg then pure (.done (none,c.2.1-1,c.2.2.1,c.2.2.2.1.push x,c.2.2.2.2.1+1,0))
   else pure (.yield (none,c.2.1-1,c.2.2.1,c.2.2.2.1.push x,c.2.2.2.2.1+1,0))
  else do
   let y <-elem' b (c.2.2.1-1)
   if(c.2.2.1-1==1)=true then pure (.done (some (fsB a b (c.2.2.2.1.push y) c.2.1 (c.2.2.1-1)),c.2.1,c.2.2.1-1,c.2.2.2.1.push y,0,c.2.2.2.2.2+1))
   else if c.2.2.2.2.2+1>=mg then pure (.done (none,c.2.1,c.2.2.1-1,c.2.2.2.1.push y,0,c.2.2.2.2.2+1))
   else pure (.yield (none,c.2.1,c.2.2.1-1,c.2.2.2.1.push y,0,c.2.2.2.2.2+1))
 |_=>pure (.done (some (dnH a b c.2.2.2.1 c.2.1 c.2.2.1),c.2.1,c.2.2.1,c.2.2.2.1,c.2.2.2.2.1,c.2.2.2.2.2))
noncomputable def aNh(a b out:Array AI)(na nb mg k k1:Nat):SM (ForInStep MH2):=do
 let x <-elem' a (na-1)
 if(na-1==0)=true then pure (.done (some (dnH a b (out.push x) (na-1) nb),na-1,nb,out.push x,mg,k,k1))
 else if(decide (k<7)&&decide (k1<7))=true then pure (.done (none,na-1,nb,out.push x,mg,k,k1))
 else pure (.yield (none,na-1,nb,out.push x,mg,k,k1))
noncomputable def aNk(a b out:Array AI)(na nb mg k bc:Nat):SM (ForInStep MH2):=do
 let y <-elem' b (nb-1)
 if(nb-1==1)=true then pure (.done (some (fsB a b (out.push y) na (nb-1)),na,nb-1,out.push y,mg,k,bc))
 else do
  let x <-elem' a (na-1)
  let q <-mG true x b 0 (nb-1) (nb-1-1)
  match q with
  |some at_=>
   if nb-1-at_>0 then
    if(at_==1)=true then pure (.done (some (fsB a b (out.push y++(b.extract at_ (nb-1)).reverse) na at_),na,at_,out.push y++(b.extract at_ (nb-1)).reverse,mg,k,nb-1-at_))
    else if(at_==0)=true then pure (.done (some (dnH a b (out.push y++(b.extract at_ (nb-1)).reverse) na at_),na,at_,out.push y++(b.extract at_ (nb-1)).reverse,mg,k,nb-1-at_))
    else aNh a b (out.push y++(b.extract at_ (nb-1)).reverse) na at_ mg k (nb-1-at_)
   else aNh a b (out.push y) na (nb-1) mg k (nb-1-at_)
  |_=>pure (.done (some (dnH a b (out.push y) na (nb-1)),na,nb-1,out.push y,mg,k,bc))
noncomputable def aKT(a b out:Array AI)(na nb mg ac bc:Nat):SM (ForInStep MH2):=do
 jM mg
 let y <-elem' b (nb-1)
 let q <-mG false y a 0 na (na-1)
 match q with
 |some at_=>
  if na-at_>0 then
   if(at_==0)=true then pure (.done (some (dnH a b (out++(a.extract at_ na).reverse) at_ nb),at_,nb,out++(a.extract at_ na).reverse,mg,na-at_,bc))
   else aNk a b (out++(a.extract at_ na).reverse) at_ nb mg (na-at_) bc
  else aNk a b out na nb mg (na-at_) bc
 |_=>pure (.done (some (dnH a b out na nb),na,nb,out,mg,ac,bc))
noncomputable def hi2(a b:Array AI)(c:MH2):SM (ForInStep MH2):=
 if c.2.2.2.2.1>1 then aKT a b c.2.2.2.1 c.2.1 c.2.2.1 (c.2.2.2.2.1-1) c.2.2.2.2.2.1 c.2.2.2.2.2.2
 else aKT a b c.2.2.2.1 c.2.1 c.2.2.1 c.2.2.2.2.1 c.2.2.2.2.2.1 c.2.2.2.2.2.2
noncomputable def hi0(a b:Array AI)(c:MH0):SM (ForInStep MH0):=do
 let d <-forIn [:a.size+b.size] ((none,c.2.1,c.2.2.1,c.2.2.2.1,0,0):MH1) λ_ d=>hi1 a b c.2.2.2.2 d
 match d.1 with
 |some r=>pure (.done (some r,d.2.1,d.2.2.1,d.2.2.2.1,c.2.2.2.2))
 |none=>do
  liftM (rule "list.sort.gallop")
  let e <-forIn [:a.size+b.size] ((none,d.2.1,d.2.2.1,d.2.2.2.1,c.2.2.2.2+1,d.2.2.2.2.1,d.2.2.2.2.2):MH2) λ_ e=>hi2 a b e
  match e.1 with
  |some r=>pure (.done (some r,e.2.1,e.2.2.1,e.2.2.2.1,e.2.2.2.2.1))
  |none=>do
   jM (e.2.2.2.2.1+1)
   pure (.yield (none,e.2.1,e.2.2.1,e.2.2.2.1,e.2.2.2.2.1+1))
noncomputable def hiM(a b:Array AI):SM (Array AI):=do
 liftM (rule "list.sort.merge-hi")
 let x <-elem' a (a.size-1)
 if(a.size-1==0)=true then pure (dnH a b #[x] (a.size-1) b.size)
 else if(b.size==1)=true then pure (fsB a b #[x] (a.size-1) b.size)
 else do
  let g <-get
  let c <-forIn [:a.size+b.size] ((none,a.size-1,b.size, #[x],gallopOf g):MH0) λ_ c=>hi0 a b c
  match c.1 with
  |some r=>pure r
  |none=>liftM (unsupported "internal:list.sort.merge-bound":Sem (Array AI))
theorem aMq(a b:Array AI):wB a b=hiM a b:=by kernel_rfl
def OKh(r:AI->Nat)(a b:Array AI)(N:Nat)(o:Option (Array AI))(out:Array AI)(na nb:Nat):Prop:=o=none/\HS r a b out.toList na nb/\1<=na/\2<=nb/\na+nb+N<=a.size+b.size
theorem OKh.mono{r:AI->Nat}{a b:Array AI}{N N':Nat}{o:Option (Array AI)}{out:Array AI}{na nb:Nat}(h:OKh r a b N o out na nb)(le:N'<=N):OKh r a b N' o out na nb:=⟨h.1,h.2.1,h.2.2.1,h.2.2.2.1,by have:=h.2.2.2.2;omega⟩
section
variable {prog:AG}{w:AL}{A:BR}{E:BO->BP->Prop}{s:BP}{κ:Ap}{r:AI->Nat}{a₀ a b out:Array AI}{st st0:BV}{na nb:Nat}
theorem MPre.first'(M:MPre r a₀ a b):∀i,i<a.size->rkA r b 0<rkA r a i:=λi hi=>aY M.first (M.asa.le0 (bS _) hi)
theorem ex0(xs:Array AI):(xs.extract 0 0).toList=[]:=by simp[eC,cY]
theorem zM(M:MPre r a₀ a b)(m:HS r a b out.toList na nb)(h:na=0):FIN r a b (some (dnH a b out na nb)):=by subst h;refine⟨_,rfl, ?_⟩;have:=m.finB M.asb;unfold dnH;rw[dH,dH,ex0,xN,lD];exact this
theorem zP(M:MPre r a₀ a b)(m:HS r a b out.toList na nb)(h:nb=1):FIN r a b (some (fsB a b out na nb)):=by subst h;refine⟨_,rfl, ?_⟩;have:=m.finL M.asa M.asb M.first';unfold fsB;rw[dH,dH,lD];exact this
theorem HS.pushA'(M:MPre r a₀ a b)(m:HS r a b out.toList na nb)(h1:1<=na)(hb:∀j,j<nb->rkA r b j<rkA r a (na-1)):HS r a b (out.push (a[na-1]'(by have:=m.ha;omega))).toList (na-1) nb:=by
 rw[jA];have e:na=na-1+1:=by omega
 have m':HS r a b out.toList (na-1+1) nb:=by rw[<-e];exact m
 exact m'.pushA M.asa hb
theorem HS.pushB'(M:MPre r a₀ a b)(m:HS r a b out.toList na nb)(h1:1<=nb)(hb:∀j,j<na->rkA r a j<rkA r b (nb-1)):HS r a b (out.push (b[nb-1]'(by have:=m.hb;omega))).toList na (nb-1):=by
 rw[jA];have e:nb=nb-1+1:=by omega
 have m':HS r a b out.toList na (nb-1+1):=by rw[<-e];exact m
 exact(m'.swap.pushA M.asb hb).swap
theorem HS.extA'(M:MPre r a₀ a b)(m:HS r a b out.toList na nb){t:Nat}(h:t<=na)(hb:∀i,t<=i->i<na->∀j,j<nb->rkA r b j<rkA r a i):HS r a b (out++(a.extract t na).reverse).toList t nb:=by rw[dH,lD];have:=m.extA M.asa (na-t) (by omega) (by rw[show na-(na-t)=t by omega];exact hb);rw[show na-(na-t)=t by omega] at this;exact this
theorem HS.extB'(M:MPre r a₀ a b)(m:HS r a b out.toList na nb){t:Nat}(h:t<=nb)(hb:∀i,t<=i->i<nb->∀j,j<na->rkA r a j<rkA r b i):HS r a b (out++(b.extract t nb).reverse).toList na t:=by rw[dH,lD];have:=m.extB M.asb (nb-t) (by omega) (by rw[show nb-(nb-t)=t by omega];exact hb);rw[show nb-(nb-t)=t by omega] at this;exact this
def H2(r:AI->Nat)(a b:Array AI)(st0:BV)(N:Nat):ForInStep MH2->BV->Prop:=λq st'=>SameG st0 st'/\match q with
 |.done c=>FIN r a b c.1\/OKh r a b N c.1 c.2.2.2.1 c.2.1 c.2.2.1
 |.yield c=>OKh r a b N c.1 c.2.2.2.1 c.2.1 c.2.2.1
theorem aDL{N mg k k1:Nat}(M:MPre r a₀ a b)(S:SameG st0 st)(m:HS r a b out.toList na nb)(h1:1<=na)(h2:2<=nb)(hN:na-1+nb+N<=a.size+b.size)(hb:∀j,j<nb->rkA r b j<rkA r a (na-1)):wpS (AE prog w) A E s (aNh a b out na nb mg k k1) (H2 r a b st0 N) st:=by
 unfold aNh;have ha:=m.ha;refine AF (eO (by omega) ?_);have m2:=m.pushA' M h1 hb
 by_cases e:na-1=0
 ·rw[if_pos (by simpa using e)];exact AJ ⟨S,.inl (zM M m2 e)⟩
 ·rw[if_neg (by simpa using e)]
  split
  ·exact AJ ⟨S,.inr ⟨rfl,m2,by show 1<=na-1;omega,h2,hN⟩⟩
  ·exact AJ ⟨S,rfl,m2,by show 1<=na-1;omega,h2,hN⟩
theorem aDl{N mg k bc:Nat}(K:lG prog w A E s κ r a₀)(hk:kindOf st0=κ)(M:MPre r a₀ a b)(S:SameG st0 st)(m:HS r a b out.toList na nb)(h1:1<=na)(h2:2<=nb)(hN:na-1+nb+N<=a.size+b.size)(hb:∀j,j<na->rkA r a j<rkA r b (nb-1)):wpS (AE prog w) A E s (aNk a b out na nb mg k bc) (H2 r a b st0 N) st:=by
 unfold aNk;have ha:=m.ha;have hbb:=m.hb;refine AF (eO (by omega) ?_);have m2:=m.pushB' M (by omega) hb
 by_cases e:nb-1=1
 ·rw[if_pos (by simpa using e)];exact AJ ⟨S,.inl (zP M m2 e)⟩
 ·rw[if_neg (by simpa using e)];have h1':na-1<a.size:=by omega
  refine AF (eO h1' (AF (pJ K (S.kind.trans hk) M.mb (M.ma _ (by simp)) (by omega) (by omega) (λi j h1 h2 h3=>M.asb i j (by omega) h2 (by omega)) (λi hi e=>M.ne (na-1) i h1' (by omega) (by rw[uE] at e;rw[e,eG h1'])) λat_ c1 c2 c3=> ?_)));dsimp only;simp only[uE] at c2 c3;rw[<-eG (r:=r) h1'] at c2 c3;have m3:=m2.extB' M (t:=at_) c1 λi i1 i2 j hj=>bQ (M.asa.le0 (by omega) h1') (c3 i i1 i2)
  have a0:1<=at_:=by
   by_cases q:at_=0
   ·subst q;have:=c3 0 (aM _) (by omega);have:=M.first' (na-1) h1';omega
   ·omega
  by_cases z:nb-1-at_>0
  ·rw[if_pos z]
   by_cases y:at_=1
   ·rw[if_pos (by simpa using y)];exact AJ ⟨S,.inl (zP M m3 y)⟩
   ·rw[if_neg (by simpa using y),if_neg (by simp;omega)];exact aDL M S m3 h1 (by omega) (by omega) c2
  ·rw[if_neg z];have z0:at_=nb-1:=by omega
   subst z0;exact aDL M S m2 h1 (by omega) (by omega) c2
theorem aJy{N mg ac bc:Nat}(K:lG prog w A E s κ r a₀)(hk:kindOf st0=κ)(M:MPre r a₀ a b)(S:SameG st0 st)(m:HS r a b out.toList na nb)(h1:1<=na)(h2:2<=nb)(hN:na-1+nb+N<=a.size+b.size):wpS (AE prog w) A E s (aKT a b out na nb mg ac bc) (H2 r a b st0 N) st:=by
 unfold aKT;have ha:=m.ha;have hbb:=m.hb;rw[jF];refine AF (BC ?_);have S:=S.set mg;have h2':nb-1<b.size:=by omega
 refine AF (eO h2' (AF (pJ K (S.kind.trans hk) M.ma (M.mb _ (by simp)) (by omega) (by omega) (λi j h1 h2 h3=>M.asa i j (by omega) h2 (by omega)) (λi hi e=>M.ne i (nb-1) (by omega) h2' (by rw[uE] at e;rw[e,eG h2'])) λat_ c1 c2 c3=> ?_)));dsimp only;simp only[uE] at c2 c3;rw[<-eG (r:=r) h2'] at c2 c3;have m3:=m.extA' M (t:=at_) c1 λi i1 i2 j hj=>bQ (M.asb.le0 (by omega) h2') (c3 i i1 i2)
 by_cases z:na-at_>0
 ·rw[if_pos z]
  by_cases y:at_=0
  ·rw[if_pos (by simpa using y)];exact AJ ⟨S,.inl (zM M m3 y)⟩
  ·rw[if_neg (by simpa using y)];exact aDl K hk M S m3 (by omega) h2 (by omega) c2
 ·rw[if_neg z];have z0:at_=na:=by omega
  subst z0;exact aDl K hk M S m h1 h2 hN c2
def H1(r:AI->Nat)(a b:Array AI)(st:BV)(N:Nat):ForInStep MH1->BV->Prop:=λq st'=>st'=st/\match q with
 |.done c=>FIN r a b c.1\/OKh r a b N c.1 c.2.2.2.1 c.2.1 c.2.2.1
 |.yield c=>OKh r a b N c.1 c.2.2.2.1 c.2.1 c.2.2.1
theorem aLM{N mg:Nat}{c:MH1}(K:lG prog w A E s κ r a₀)(hk:kindOf st=κ)(M:MPre r a₀ a b)(h:OKh r a b N c.1 c.2.2.2.1 c.2.1 c.2.2.1):wpS (AE prog w) A E s (hi1 a b mg c) (H1 r a b st (N+1)) st:=by
 obtain⟨o,na,nb,out,ac,bc⟩:=c;obtain⟨h0,m,h1,h2,hN⟩:=h;dsimp only at h0 m h1 h2 hN;unfold hi1;dsimp only;have ha:=m.ha;have hbb:=m.hb;have h1':na-1<a.size:=by omega
 have h2':nb-1<b.size:=by omega
 refine AF (eO h2' (AF (eO h1' (AF (K.ask (M.mb _ (by simp)) (M.ma _ (by simp)) hk ?_)))));dsimp only
 by_cases q:r b[nb-1]<r a[na-1]
 ·rw[if_pos (by simpa using q)];refine AF (eO h1' ?_);have q':rkA r b (nb-1)<rkA r a (na-1):=by rw[eG h1',eG h2'];exact q
  have m2:=m.pushA' M h1 λj hj=>bQ (M.asb.le0 (by omega) h2') q'
  by_cases e:na-1=0
  ·rw[if_pos (by simpa using e)];exact AJ ⟨rfl,.inl (zM M m2 e)⟩
  ·rw[if_neg (by simpa using e)]
   split
   ·exact AJ ⟨rfl,.inr ⟨rfl,m2,by show 1<=na-1;omega,h2,by show na-1+nb+_<=_;omega⟩⟩
   ·exact AJ ⟨rfl,rfl,m2,by show 1<=na-1;omega,h2,by show na-1+nb+_<=_;omega⟩
 ·rw[if_neg (by simpa using q)];refine AF (eO h2' ?_)
  have q':rkA r a (na-1)<rkA r b (nb-1):=by have:=M.ne (na-1) (nb-1) h1' h2';rw[eG h1',eG h2'] at this ⊢;omega
  have m2:=m.pushB' M (by omega) λj hj=>bQ (M.asa.le0 (by omega) h1') q'
  by_cases e:nb-1=1
  ·rw[if_pos (by simpa using e)];exact AJ ⟨rfl,.inl (zP M m2 e)⟩
  ·rw[if_neg (by simpa using e)]
   split
   ·exact AJ ⟨rfl,.inr ⟨rfl,m2,h1,by show 2<=nb-1;omega,by show na+(nb-1)+_<=_;omega⟩⟩
   ·exact AJ ⟨rfl,rfl,m2,h1,by show 2<=nb-1;omega,by show na+(nb-1)+_<=_;omega⟩
def H0(r:AI->Nat)(a b:Array AI)(st0:BV)(N:Nat):ForInStep MH0->BV->Prop:=λq st'=>SameG st0 st'/\match q with
 |.done c=>FIN r a b c.1
 |.yield c=>OKh r a b N c.1 c.2.2.2.1 c.2.1 c.2.2.1
theorem aML{N:Nat}{c:MH0}(K:lG prog w A E s κ r a₀)(hk:kindOf st0=κ)(M:MPre r a₀ a b)(S:SameG st0 st)(h:OKh r a b N c.1 c.2.2.2.1 c.2.1 c.2.2.1):wpS (AE prog w) A E s (hi0 a b c) (H0 r a b st0 (N+1)) st:=by
 obtain⟨o,na,nb,out,mg⟩:=c;obtain⟨h0,m,h1,h2,hN⟩:=h;dsimp only at h0 m h1 h2 hN;unfold hi0;dsimp only;refine AF (Aa (AU (I:=λx d st'=>st'=st/\OKh r a b (N+x) d.1 d.2.2.2.1 d.2.1 d.2.2.1) (Q:=λd st'=>st'=st/\(FIN r a b d.1\/OKh r a b (N+1) d.1 d.2.2.2.1 d.2.1 d.2.2.1)) ?step ?fin ⟨rfl,rfl,m,h1,h2,hN⟩) ?post)
 case step=>
  rintro x d st' _ hx ⟨rfl,hd⟩;refine Aa (aLM K (S.kind.trans hk) M hd) λq st'' hq=> ?_
  obtain⟨rfl,hq⟩:=hq;cases q with
  |done d=>exact⟨rfl,hq.imp id λz=>z.mono (by omega)⟩
  |yield d=>exact⟨rfl,hq⟩
 case fin=>rintro d st' ⟨rfl,_,_,h3,h4,h5⟩;omega
 case post=>
  rintro d st' ⟨rfl,hd⟩;obtain⟨o1,na,nb,out,ac,bc⟩:=d
  rcases hd with⟨res,e,hres⟩|⟨e,m,h1,h2,hN⟩
  ·dsimp only at e;subst e;exact AJ ⟨S,res,rfl,hres⟩
  ·dsimp only at e m h1 h2 hN;subst e;dsimp only;refine AF (wpS_lift (Au ⟨rfl, ?_⟩));refine AF (Aa (AU (I:=λx d st'=>SameG st0 st'/\OKh r a b (N+1+x) d.1 d.2.2.2.1 d.2.1 d.2.2.1) (Q:=λd st'=>SameG st0 st'/\(FIN r a b d.1\/OKh r a b (N+1) d.1 d.2.2.2.1 d.2.1 d.2.2.1)) ?step2 ?fin2 ⟨S,rfl,m,h1,h2,hN⟩) ?post2)
   case step2=>
    rintro x ⟨o2,na,nb,out,mg,ac,bc⟩ st' _ hx ⟨S,_,m,h1,h2,hN⟩;dsimp only at m h1 h2 hN;have key:∀mg,wpS (AE prog w) A E s (aKT a b out na nb mg ac bc) (H2 r a b st0 (N+1+(x+1))) st':=λmg=>aJy K hk M S m h1 h2 (by omega)
    unfold hi2;dsimp only
    split<;>
    ·refine Aa (key _) λq st'' hq=> ?_
     obtain⟨S',hq⟩:=hq;cases q with
     |done d=>exact⟨S',hq.imp id λz=>z.mono (by omega)⟩
     |yield d=>exact⟨S',hq⟩
   case fin2=>rintro d st' ⟨_,_,_,h3,h4,h5⟩;omega
   case post2=>
    rintro⟨o2,na,nb,out,mg,ac,bc⟩ st' ⟨S,hd⟩
    rcases hd with⟨res,e,hres⟩|⟨e,m,h1,h2,hN⟩
    ·dsimp only at e;subst e;exact AJ ⟨S,res,rfl,hres⟩
    ·dsimp only at e m h1 h2 hN;subst e;dsimp only;rw[jF];exact AF (BC (AJ ⟨S.set _,rfl,m,h1,h2,hN⟩))
theorem aAI{Q:Array AI->BV->Prop}(K:lG prog w A E s κ r a₀)(hk:kindOf st=κ)(M:MPre r a₀ a b)
  (h:∀out st',MD r a b out.toList->SameG st st'->Q out st'):wpS (AE prog w) A E s (wB a b) Q st:=by
 rw[aMq];unfold hiM;refine AF (wpS_lift (Au ⟨rfl, ?_⟩));have b1:=M.b1;have a1:=M.a1;refine AF (eO (by omega) ?_);have m0:HS r a b (#[]:Array AI).toList a.size b.size:=⟨aM _,aM _,by rw[aCm (by simp),aCm (by simp)];exact .refl _,by simp,λx hx=>by simp at hx,λx hx=>by simp at hx⟩;have m:HS r a b (#[a[a.size-1]]:Array AI).toList (a.size-1) b.size:=m0.pushA' M a1 λj hj=>M.last' j hj
 by_cases e:a.size-1=0
 ·rw[if_pos (by simpa using e)];obtain⟨res,e2,hr⟩:=zM M m e;cases e2;exact AJ (h _ _ hr (.refl _))
 ·rw[if_neg (by simpa using e)]
  by_cases e1:b.size=1
  ·rw[if_pos (by simpa using e1)];obtain⟨res,e2,hr⟩:=zP M m e1;cases e2;exact AJ (h _ _ hr (.refl _))
  ·rw[if_neg (by simpa using e1)];refine AF (wpS_get (AF (Aa (AU (I:=λx d st'=>SameG st st'/\OKh r a b (x+1) d.1 d.2.2.2.1 d.2.1 d.2.2.1) (Q:=λd st'=>SameG st st'/\FIN r a b d.1) ?step ?fin ⟨.refl _,rfl,m,by show 1<=a.size-1;omega,by show 2<=b.size;omega,by show a.size-1+b.size+(0+1)<=_;omega⟩) ?post)))
   case step=>
    rintro x d st' _ hx ⟨S,hd⟩;refine Aa (aML K hk M S hd) λq st'' hq=> ?_
    obtain⟨S',hq⟩:=hq;cases q with
    |done d=>exact⟨S',hq⟩
    |yield d=>exact⟨S',hq⟩
   case fin=>rintro d st' ⟨_,_,_,h3,h4,h5⟩;omega
   case post=>rintro d st' ⟨S,res,e,hr⟩;rw[e];exact AJ (h _ _ hr S)
end
noncomputable abbrev Pnd:=Array (Nat×Nat×Nat)
noncomputable def wbA(sa:Nat)(m:Array AI)(xs:Array AI):Array AI:=m.toList.zipIdx.foldl (λa (q:AI×Nat)=>a.setIfInBounds (sa+q.2) q.1) xs
noncomputable def mgC(x y:Array AI)(na nb sa:Nat):SM Bool:=do
 let merged <-if na<=nb then uW x y else wB x y
 modify λs=>setArr s (wbA sa merged (AK s))
 let s <-get
 pure (failedOf s).isNone
noncomputable def mgB(xs:Array AI)(sa na sb nb:Nat):SM Bool:=do
 if(na==0)=true then pure true
 else do
  let x <-elem' xs (sa+na-1)
  let q <-mG true x xs sb nb (nb-1)
  match q with
  |some nb=>if(nb==0)=true then pure true else mgC (xs.extract sa sb) (xs.extract sb (sb+nb)) na nb sa
  |_=>pure false
noncomputable def mgA(i:Nat):SM Bool:=do
 let s <-get
 match(AC s)[i]?,(AC s)[i+1]? with
 |some (sa,na,pw),some (sb,nb,_)=>do
  set (BJ s (((AC s).setIfInBounds i (sa,na+nb,pw)).eraseIdxIfInBounds (i+1)))
  let y <-elem' (AK s) sb
  let q <-mG false y (AK s) sa na 0
  match q with
  |some k=>mgB (AK s) (sa+k) (na-k) sb nb
  |_=>pure false
 |_,_=>liftM (unsupported "internal:list.sort.pending":Sem Bool)
theorem aMt(i:Nat):mergeAt' i=mgA i:=by kernel_rfl
noncomputable def aPc(pw:Nat):SM (ForInStep (Option Unit×Unit)):=do
 let s <-get
 match(if(AC s).size>1 then(AC s)[(AC s).size-2]? else none) with
 |some (_,_,older)=>
  if older<=pw then pure (.done (none,()))
  else do
   let b <-mergeAt' ((AC s).size-2)
   if(!b)=true then pure (.done (some (),())) else pure (.yield (none,()))
 |_=>pure (.done (none,()))
noncomputable def zT(lo n size:Nat):SM (ForInStep (Option Unit×Nat)):=do
 let s <-get
 match(AC s).back? with
 |some (s1,n1,_)=>do
  let c <-forIn [:size] ((none,()):Option Unit×Unit) λ_ _=>aPc (power' size (2*s1+n1) (2*s1+n1+n1+n) size)
  match c.1 with
  |some r=>pure (.done (some r,lo))
  |none=>do
   modify λs=>BJ s ((AC s).modify ((AC s).size-1) λ(st,len,_)=>(st,len,power' size (2*s1+n1) (2*s1+n1+n1+n) size))
   modify λs=>BJ s ((AC s).push (lo,n,0))
   pure (.yield (none,lo+n))
 |_=>do
  modify λs=>BJ s ((AC s).push (lo,n,0))
  pure (.yield (none,lo+n))
noncomputable def aHj(size minrun:Nat)(c:Option Unit×Nat):SM (ForInStep (Option Unit×Nat)):=
 if c.2>=size then pure (.done (none,c.2))
 else do
  let f <-countRun' c.2 (size-c.2)
  match f with
  |some found=>
   if found<minrun then do
    liftM (rule "list.sort.binary-insertion")
    let b <-binarySort' c.2 (min (size-c.2) minrun) found
    if(!b)=true then pure (.done (some (),c.2)) else zT c.2 (min (size-c.2) minrun) size
   else zT c.2 found size
  |_=>pure (.done (some (),c.2))
noncomputable def aLx:SM (ForInStep (Option Unit×Unit)):=do
 let s <-get
 if(AC s).size<=1 then pure (.done (none,()))
 else do
  let b <-mergeAt' (if((if(AC s).size-2>0 then(AC s)[(AC s).size-2-1]?.map (·.2.1) else none).any (·<((AC s)[(AC s).size-2+1]?.elim 0 (·.2.1))))=true then(AC s).size-2-1 else(AC s).size-2)
  if(!b)=true then pure (.done (some (),())) else pure (.yield (none,()))
noncomputable def srM:SM Unit:=do
 let s <-get
 let c <-forIn [:(AK s).size] ((none,0):Option Unit×Nat) λ_ c=>aHj (AK s).size (minRun' (AK s).size (AK s).size 0) c
 match c.1 with
 |some r=>pure r
 |none=>do
  let d <-forIn [:(AK s).size] ((none,()):Option Unit×Unit) λ_ _=>aLx
  match d.1 with
  |some r=>pure r
  |none=>pure ()
theorem aMy:sortRuns'=srM:=by kernel_rfl
section
variable {r:AI->Nat}{xs:Array AI}
theorem aCD{i j t:Nat}(h:i+t<j)(hj:j<=xs.size):rkA r (xs.extract i j) t=rkA r xs (i+t):=by refine iO ?_;rw[Array.getElem?_extract,if_pos (by omega)]
theorem aHt(sa t:Nat):∀ (l:List AI) (n:Nat) (xs:Array AI),sa+n+l.length<=xs.size->((l.zipIdx n).foldl (λa (q:AI×Nat)=>a.setIfInBounds (sa+q.2) q.1) xs)[t]? =if sa+n<=t/\t<sa+n+l.length then l[t-(sa+n)]? else xs[t]?
 |[],n,xs,_=>by rw[if_neg (by rw[iB];omega)];rfl
 |p::l,n,xs,h=>by
  rw[bU] at h
  have S:(xs.setIfInBounds (sa+n) p)[t]? =if sa+n=t then some p else xs[t]? :=by
   rw[xI]
   by_cases e:sa+n=t
   ·rw[if_pos e,if_pos e,if_pos (by omega)]
   ·rw[if_neg e,if_neg e]
  rw[uU,aKH,aHt sa t l (n+1) _ (by rw[Array.size_setIfInBounds];omega),bU,S]
  by_cases e:sa+n=t
  ·rw[if_neg (show ¬ (sa+(n+1)<=t/\t<sa+(n+1)+l.length) by omega),if_pos e,if_pos (show sa+n<=t/\t<sa+n+(l.length+1) by omega),show t-(sa+n)=0 by omega];rfl
  ·by_cases q:sa+(n+1)<=t/\t<sa+(n+1)+l.length
   ·rw[if_pos q,if_pos (show sa+n<=t/\t<sa+n+(l.length+1) by omega),show t-(sa+n)=t-(sa+(n+1))+1 by omega,List.getElem?_cons_succ]
   ·rw[if_neg q,if_neg e,if_neg (show ¬ (sa+n<=t/\t<sa+n+(l.length+1)) by omega)]
theorem aLA{sa:Nat}{m:Array AI}(h:sa+m.size<=xs.size)(t:Nat):(wbA sa m xs)[t]? =if sa<=t/\t<sa+m.size then m[t-sa]? else xs[t]? :=by have:=aHt sa t m.toList 0 xs (by simpa using h);unfold wbA;rw[this];simp
theorem aJs{sa:Nat}{m:Array AI}(h:sa+m.size<=xs.size):(wbA sa m xs).toList=xs.toList.take sa++(m.toList++xs.toList.drop (sa+m.size)):=by
 apply nO;intro t;rw[dG,aLA h];have l1:(xs.toList.take sa).length=sa:=by rw[cT];simp;omega
 by_cases h1:t<sa
 ·rw[if_neg (by omega),gA (by rw[l1];exact h1),aAM h1,dG]
 ·rw[fR (by rw[l1];omega),l1]
  by_cases h2:t<sa+m.size
  ·rw[if_pos ⟨by omega,h2⟩,gA (by simp;omega),dG]
  ·rw[if_neg (by omega),fR (by simp;omega),List.getElem?_drop,cR];rw[show sa+m.size+(t-sa-m.size)=t by omega,dG]
theorem aCk{sa n:Nat}(h:sa+n<=xs.size):xs.toList=xs.toList.take sa++((xs.extract sa (sa+n)).toList++xs.toList.drop (sa+n)):=by
 rw[eC,cY,show sa+n-sa=n by omega];have e:xs.toList.drop (sa+n)=(xs.toList.drop sa).drop n:=by rw[aNg]
 rw[e,hV,hV]
theorem aKv{sa:Nat}{m:Array AI}(h:sa+m.size<=xs.size)(hp:m.toList.Perm (xs.extract sa (sa+m.size)).toList):(wbA sa m xs).Perm xs:=by apply gZ.mpr;rw[aJs h];refine List.Perm.trans ?_ (List.Perm.of_eq (aCk (xs:=xs) h).symm);exact List.Perm.append_left _ (List.Perm.append_right _ hp)
theorem aJH{i j k:Nat}(h1:i<=j)(h2:j<=k)(h3:k<=xs.size):(xs.extract i j).toList++(xs.extract j k).toList=(xs.extract i k).toList:=by simp only[eC,cY];rw[show k-i=(j-i)+(k-j) by omega,List.take_add,aNg,show i+(j-i)=j by omega]
end
section
variable {prog:AG}{w:AL}{A:BR}{E:BO->BP->Prop}{s:BP}{κ:Ap}{r:AI->Nat}{a₀:Array AI}{st st':BV}
theorem aJR{st2:BV}{Q:PUnit->BV->Prop}(h:Q ⟨⟩ st2):wpS (AE prog w) A E s (set st2:StateT BV Sem PUnit) Q st:=by unfold wpS;rw[StateT.run_set];exact AB ⟨rfl,h⟩
theorem aAF{i sa na pw sb nb pw':Nat}{Q:Bool->BV->Prop}(K:lG prog w A E s κ r a₀)(hB:SB κ a₀ st)(p1:(AC st)[i]? =some (sa,na,pw))(p2:(AC st)[i+1]? =some (sb,nb,pw'))(hs:sb=sa+na)(n1:1<=na)(n2:1<=nb)(hz:sb+nb<=a₀.size)
  (A1:AscR r (AK st) sa sb) (A2:AscR r (AK st) sb (sb+nb))
  (h:∀st',SB κ a₀ st'->AC st'=((AC st).setIfInBounds i (sa,na+nb,pw)).eraseIdxIfInBounds (i+1)->(∀k,k<sa\/sb+nb<=k->(AK st')[k]? =(AK st)[k]?)->AscR r (AK st') sa (sb+nb)->Q true st'):wpS (AE prog w) A E s (mergeAt' i) Q st:=by
 have sz:=hB.size;have mem:∀x∈(AK st).toList,x∈a₀.toList:=λx hx=>(gZ.mp hB.perm).mem_iff.mp hx
 rw[aMt];unfold mgA;refine AF (wpS_get ?_);rw[p1,p2];dsimp only;refine AF (aJR ?_);have hB1:SB κ a₀ (BJ st (((AC st).setIfInBounds i (sa,na+nb,pw)).eraseIdxIfInBounds (i+1))):=⟨hB.perm,hB.kind,hB.failed⟩
 have h1:∀st',SameG (BJ st (((AC st).setIfInBounds i (sa,na+nb,pw)).eraseIdxIfInBounds (i+1))) st'->AscR r (AK st) sa (sb+nb)->Q true st':=λst' S a=>by refine h st' ⟨by rw[S.arr];exact hB.perm,by rw[S.kind];exact hB.kind,by rw[S.failed];exact hB.failed⟩ S.pend (λk _=>by rw[S.arr]) ?_;rw[S.arr];exact a
 have hsb:sb<(AK st).size:=by omega
 refine AF (eO hsb (AF (pJ K hB1.kind mem (mem _ (by simp)) (by omega) (by omega) (by rw[<-hs];exact A1) (λj hj e=> ?_) λk c1 c2 c3=> ?_)))
 ·rw[<-eG (r:=r) hsb] at e;exact hB.ne K (i:=sa+j) (j:=sb) (by omega) (by omega) (by omega) e
 rw[<-eG (r:=r) hsb] at c2 c3
 have c2':∀j,sa<=j->j<sa+k->rkA r (AK st) j<rkA r (AK st) sb:=λj j1 j2=>by
  have:=c2 (j-sa) (by omega)
  rwa[show sa+(j-sa)=j by omega] at this
 have c3':∀j,sa+k<=j->j<sb->rkA r (AK st) sb<rkA r (AK st) j:=λj j1 j2=>by
  have:=c3 (j-sa) (by omega) (by omega)
  rwa[show sa+(j-sa)=j by omega] at this
 have A2l:∀j,sb<=j->j<sb+nb->rkA r (AK st) sb<=rkA r (AK st) j:=λj j1 j2=>by
  by_cases e:j=sb
  ·rw[e];exact aM _
  ·exact cW (A2 sb j (aM _) (by omega) j2)
 dsimp only;unfold mgB
 by_cases e0:na-k=0
 ·rw[if_pos (by simpa using e0)];refine AJ (h1 _ (.refl _) λi j i1 ij j1=> ?_)
  by_cases q1:j<sb
  ·exact A1 i j i1 ij q1
  ·by_cases q2:i<sb
   ·exact aY (c2' i i1 (by omega)) (A2l j (by omega) j1)
   ·exact A2 i j (by omega) ij j1
 ·rw[if_neg (by simpa using e0)];have ekn:sa+k+(na-k)-1=sb-1:=by omega
  have hkb:sb-1<(AK st).size:=by omega
  rw[ekn];refine AF (eO hkb (AF (pJ K hB1.kind mem (mem _ (by simp)) (by omega) (by omega) A2 (λj hj e=> ?_) λn2' d1 d2 d3=> ?_)))
  ·rw[<-eG (r:=r) hkb] at e;exact hB.ne K (i:=sb+j) (j:=sb-1) (by omega) (by omega) (by omega) e
  rw[<-eG (r:=r) hkb] at d2 d3
  have d2':∀j,sb<=j->j<sb+n2'->rkA r (AK st) j<rkA r (AK st) (sb-1):=λj j1 j2=>by
   have:=d2 (j-sb) (by omega)
   rwa[show sb+(j-sb)=j by omega] at this
  have d3':∀j,sb+n2'<=j->j<sb+nb->rkA r (AK st) (sb-1)<rkA r (AK st) j:=λj j1 j2=>by
   have:=d3 (j-sb) (by omega) (by omega)
   rwa[show sb+(j-sb)=j by omega] at this
  have n2p:n2'≠0:=λz=>by subst z;have a:=d3' sb (by omega) (by omega);have b:=c3' (sb-1) (by omega) (by omega);omega
  dsimp only;rw[if_neg (by simpa using n2p)];unfold mgC
  have M:MPre r a₀ ((AK st).extract (sa+k) sb) ((AK st).extract sb (sb+n2')):=by
   have s1:((AK st).extract (sa+k) sb).size=sb-(sa+k):=by rw[kB];omega
   have s2:((AK st).extract sb (sb+n2')).size=n2':=by rw[kB];omega
   have e1:∀t,t<sb-(sa+k)->rkA r ((AK st).extract (sa+k) sb) t=rkA r (AK st) (sa+k+t):=λt ht=>aCD (by omega) (by omega)
   have e2:∀t,t<n2'->rkA r ((AK st).extract sb (sb+n2')) t=rkA r (AK st) (sb+t):=λt ht=>aCD (by omega) (by omega)
   refine⟨by omega,by omega,λi j _ ij j1=> ?_,λi j _ ij j1=> ?_,λx hx=> ?_,λx hx=> ?_,λi j i1 j1=> ?_, ?_, ?_⟩
   ·rw[s1] at j1;rw[e1 i (by omega),e1 j j1];exact A1 _ _ (by omega) (by omega) (by omega)
   ·rw[s2] at j1;rw[e2 i (by omega),e2 j j1];exact A2 _ _ (by omega) (by omega) (by omega)
   ·rw[eC,cY] at hx;exact mem x (lF (qB hx))
   ·rw[eC,cY] at hx;exact mem x (lF (qB hx))
   ·rw[s1] at i1;rw[s2] at j1;rw[e1 i i1,e2 j j1];exact hB.ne K (by omega) (by omega) (by omega)
   ·rw[e1 0 (by omega),e2 0 (by omega)];exact c3' _ (by omega) (by omega)
   ·rw[s1,s2,e1 _ (by omega),e2 _ (by omega),show sa+k+(sb-(sa+k)-1)=sb-1 by omega];exact d2' _ (by omega) (by omega)
  have fin:∀out st',MD r ((AK st).extract (sa+k) sb) ((AK st).extract sb (sb+n2')) out.toList→SameG (BJ st (((AC st).setIfInBounds i (sa,na+nb,pw)).eraseIdxIfInBounds (i+1))) st'→wpS (AE prog w) A E s (do
    modify λs=>setArr s (wbA (sa+k) out (AK s))
    let s <-get
    pure (failedOf s).isNone) Q st':=λout st' D S=>by
   refine AF (BC (AF (wpS_get (AJ ?_))))
   have ep:out.toList.Perm ((AK st).extract (sa+k) (sb+n2')).toList:=by
    have:=D.1
    rwa[aJH (by omega) (by omega) (by omega)] at this
   have sO:out.size=sb+n2'-(sa+k):=by have:=ep.length_eq;rw[cR,cR,kB] at this;omega
   have hz2:sa+k+out.size<=(AK st).size:=by omega
   have ep2:out.toList.Perm ((AK st).extract (sa+k) (sa+k+out.size)).toList:=by rw[sO,show sa+k+(sb+n2'-(sa+k))=sb+n2' by omega];exact ep
   have ff:failedOf (setArr st' (wbA (sa+k) out (AK st')))=none:=by show failedOf st'=none;rw[S.failed];exact hB.failed
   rw[ff];have arr':AK st'=AK st:=S.arr
   have at_:∀t,(AK (setArr st' (wbA (sa+k) out (AK st'))))[t]? =if sa+k<=t/\t<sb+n2' then out[t-(sa+k)]? else(AK st)[t]? :=λt=>by show(wbA (sa+k) out (AK st'))[t]? =_;rw[arr',aLA hz2,sO,show sa+k+(sb+n2'-(sa+k))=sb+n2' by omega]
   refine h _ ⟨?_, ?_,ff⟩ ?_ (λt ht=>by rw[at_,if_neg (by omega)]) ?_
   ·show(wbA (sa+k) out (AK st')).Perm a₀;rw[arr'];exact(aKv hz2 ep2).trans hB.perm
   ·show kindOf st'=κ;rw[S.kind];exact hB.kind
   ·show AC st'=_;rw[S.pend]
   ·have rin:∀t,sa+k<=t->t<sb+n2'->rkA r (AK (setArr st' (wbA (sa+k) out (AK st')))) t=rkA r out (t-(sa+k)):=λt t1 t2=>iO (by rw[at_,if_pos ⟨t1,t2⟩])
    have rout:∀t,t<sa+k\/sb+n2'<=t->rkA r (AK (setArr st' (wbA (sa+k) out (AK st')))) t=rkA r (AK st) t:=λt ht=>iO (by rw[at_,if_neg (by omega)])
    have mo:∀u,u<out.size->∃v,sa+k<=v/\v<sb+n2'/\rkA r out u=rkA r (AK st) v:=λu hu=>by
     have hm:out[u]∈((AK st).extract (sa+k) (sb+n2')).toList:=ep.mem_iff.mp (by simp);obtain⟨v,hv,ev⟩:=eZ hm
     have hv':v<sb+n2'-(sa+k):=by have:=hv;rw[cR,kB] at this;omega
     refine⟨sa+k+v,by omega,by omega, ?_⟩;rw[eG hu,<-ev,<-aCD (xs:=AK st) (i:=sa+k) (j:=sb+n2') (t:=v) (by omega) (by omega)];rw[eG (by rw[kB];omega)];simp
    have asO:∀u v,u<v->v<out.size->rkA r out u<rkA r out v:=λu v uv hv=>by have:=(jN.mp D.2) u v (by simp;omega) (by simpa using hv) uv;rw[eG (by omega),eG hv];simpa using this
    have low:∀t u,sa<=t->t<sa+k->u<out.size->rkA r (AK st) t<rkA r out u:=λt u t1 t2 hu=>by
     obtain⟨v,v1,v2,ev⟩:=mo u hu;rw[ev]
     by_cases q:v<sb
     ·exact A1 t v t1 (by omega) q
     ·exact aY (c2' t t1 t2) (A2l v (by omega) (by omega))
    have high:∀t u,sb+n2'<=t->t<sb+nb->u<out.size->rkA r out u<rkA r (AK st) t:=λt u t1 t2 hu=>by
     obtain⟨v,v1,v2,ev⟩:=mo u hu;rw[ev]
     by_cases q:v<sb
     ·refine bQ ?_ (d3' t t1 t2)
      by_cases e:v=sb-1
      ·rw[e];exact aM _
      ·exact cW (A1 v (sb-1) (by omega) (by omega) (by omega))
     ·exact A2 v t (by omega) (by omega) t2
    intro u v u1 uv v1
    by_cases q1:u<sa+k
    ·rw[rout u (.inl q1)]
     by_cases q2:v<sa+k
     ·rw[rout v (.inl q2)];exact A1 u v u1 uv (by omega)
     ·by_cases q3:v<sb+n2'
      ·rw[rin v (by omega) q3];exact low _ _ u1 q1 (by omega)
      ·rw[rout v (.inr (by omega))];exact aY (c2' u u1 q1) (A2l v (by omega) v1)
    ·by_cases q2:u<sb+n2'
     ·rw[rin u (by omega) q2]
      by_cases q3:v<sb+n2'
      ·rw[rin v (by omega) q3];exact asO _ _ (by omega) (by omega)
      ·rw[rout v (.inr (by omega))];exact high _ _ (by omega) v1 (by omega)
     ·rw[rout u (.inr (by omega)),rout v (.inr (by omega))];exact A2 u v (by omega) uv v1
  dsimp only
  split
  ·exact AF (aAE K hB1.kind M fin)
  ·exact AF (aAI K hB1.kind M fin)
end
noncomputable def Runs(r:AI->Nat)(xs:Array AI):Nat->List (Nat×Nat×Nat)->Nat->Prop
 |s,[],e=>s=e
 |s,p::l,e=>p.1=s/\1<=p.2.1/\AscR r xs s (s+p.2.1)/\Runs r xs (s+p.2.1) l e
section
variable {r:AI->Nat}{xs ys:Array AI}
theorem AscR.keep{s e:Nat}(h:AscR r xs s e)(k:∀t,s<=t->t<e->ys[t]? =xs[t]?):AscR r ys s e:=λi j hi hij hj=>by rw[iO (k i hi (by omega)),iO (k j (by omega) hj)];exact h i j hi hij hj
theorem Runs.le:∀ {l:List (Nat×Nat×Nat)}{s e:Nat},Runs r xs s l e->s+l.length<=e
 |[],s,e,h=>by rw[show s=e from h];exact aM _
 |p::l,s,e,⟨_,h1,_,h2⟩=>by have:=h2.le;rw[bU];omega
theorem Runs.keep:∀ {l:List (Nat×Nat×Nat)}{s e:Nat},Runs r xs s l e->(∀t,s<=t->t<e->ys[t]? =xs[t]?)->Runs r ys s l e
 |[],_,_,h,_=>h
 |p::l,s,e,⟨h0,h1,h2,h3⟩,k=>by have:=h3.le;exact⟨h0,h1,h2.keep λt t1 t2=>k t t1 (by omega),h3.keep λt t1 t2=>k t (by omega) t2⟩
theorem Runs.split:∀ {l1 l2:List (Nat×Nat×Nat)}{s e:Nat},Runs r xs s (l1++l2) e->∃m,Runs r xs s l1 m/\Runs r xs m l2 e
 |[],l2,s,e,h=>⟨s,rfl,h⟩
 |p::l1,l2,s,e,⟨h0,h1,h2,h3⟩=>by obtain⟨m,a,b⟩:=Runs.split h3;exact⟨m,⟨h0,h1,h2,a⟩,b⟩
theorem Runs.app:∀ {l1 l2:List (Nat×Nat×Nat)}{s m e:Nat},Runs r xs s l1 m->Runs r xs m l2 e->Runs r xs s (l1++l2) e
 |[],l2,s,m,e,h,h2=>by rw[show s=m from h];exact h2
 |p::l1,l2,s,m,e,⟨h0,h1,h2,h3⟩,b=>⟨h0,h1,h2,Runs.app h3 b⟩
theorem Runs.pow{l1:List (Nat×Nat×Nat)}{x y:Nat×Nat×Nat}{s e:Nat}(h:Runs r xs s (l1++[x]) e)(h1:y.1=x.1)(h2:y.2.1=x.2.1):Runs r xs s (l1++[y]) e:=by obtain⟨m,a,b⟩:=h.split;refine a.app ?_;obtain⟨b0,b1,b2,b3⟩:=b;exact⟨h1.trans b0,by rw[h2];exact b1,by rw[h2];exact b2,by rw[h2];exact b3⟩
theorem aHg{p:Pnd}{i:Nat}(h:i+1<p.size)(v:Nat×Nat×Nat):p.toList=p.toList.take i++p[i]::p[i+1]::p.toList.drop (i+2)/\((p.setIfInBounds i v).eraseIdxIfInBounds (i+1)).toList=p.toList.take i++v::p.toList.drop (i+2):=by
 have e1:p.toList=p.toList.take i++p[i]::p[i+1]::p.toList.drop (i+2):=by
  have a:p.toList.drop i=p[i]::p.toList.drop (i+1):=by rw[dJ (by simp;omega)];simp
  have b:p.toList.drop (i+1)=p[i+1]::p.toList.drop (i+1+1):=by rw[dJ (by simp;omega)];simp
  rw[<-b,<-a,hV]
 refine⟨e1, ?_⟩;have l1:(p.toList.take i).length=i:=by rw[cT];simp;omega
 rw[Array.toList_eraseIdxIfInBounds,Array.toList_setIfInBounds];generalize p.toList.take i=u at e1 l1;generalize p.toList.drop (i+2)=z at e1;rw[e1];rw[List.set_append_right _ _ (by omega),l1,pF,List.set_cons_zero,List.eraseIdx_append_of_length_le (by omega),l1,show i+1-i=1 by omega];rfl
end
section
variable {prog:AG}{w:AL}{A:BR}{E:BO->BP->Prop}{s:BP}{κ:Ap}{r:AI->Nat}{a₀:Array AI}{st st':BV}
theorem aDE{i e:Nat}{Q:Bool->BV->Prop}(K:lG prog w A E s κ r a₀)(hB:SB κ a₀ st)(R:Runs r (AK st) 0 (AC st).toList e)(he:e<=a₀.size)(hi:i+1<(AC st).size)
  (h:∀st',SB κ a₀ st'->Runs r (AK st') 0 (AC st').toList e->(AC st').size+1=(AC st).size->(∀k,e<=k->(AK st')[k]? =(AK st)[k]?)->Q true st'):wpS (AE prog w) A E s (mergeAt' i) Q st:=by
 obtain⟨e1,_⟩:=aHg hi (0,0,0);have R0:=R;rw[e1] at R0;obtain⟨m,R1,a1,a2,a3,b1,b2,b3,R2⟩:=R0.split
 have h1:(AC st)[i]? =some (m,(AC st)[i].2.1,(AC st)[i].2.2):=by rw[getElem?_pos _ i (by omega)];refine congrArg some ?_;rw[<-a1]
 have h2:(AC st)[i+1]? =some (m+(AC st)[i].2.1,(AC st)[i+1].2.1,(AC st)[i+1].2.2):=by rw[getElem?_pos _ (i+1) (by omega)];refine congrArg some ?_;rw[<-b1]
 have l2:=R2.le;have l1:=R1.le;refine aAF K hB h1 h2 rfl a2 b2 (by omega) a3 b3 λst' hB' hp hk ha=> ?_
 obtain⟨_,e2⟩:=aHg hi (m,(AC st)[i].2.1+(AC st)[i+1].2.1,(AC st)[i].2.2);have ep:(AC st').toList=(AC st).toList.take i++(m,(AC st)[i].2.1+(AC st)[i+1].2.1,(AC st)[i].2.2)::(AC st).toList.drop (i+2):=by rw[hp];exact e2
 refine h st' hB' ?_ ?_ (λk hk2=>hk k (.inr (by omega)))
 ·rw[ep];refine(R1.keep λt _ t2=>hk t (.inl t2)).app ⟨rfl,by show 1<=_+_;omega, ?_, ?_⟩
  ·show AscR r (AK st') m (m+(_+_));rw[<-aOQ];exact ha
  ·show Runs r (AK st') (m+(_+_)) _ e;rw[<-aOQ];exact R2.keep λt t1 _=>hk t (.inr t1)
 ·have:=congrArg xG ep;have q:=congrArg xG e1;simp only[cR,bB,bU] at this q;omega
structure SR(κ:Ap)(r:AI->Nat)(a₀:Array AI)(lo:Nat)(st:BV):Prop where
 sb:SB κ a₀ st
 runs:Runs r (AK st) 0 (AC st).toList lo
theorem aBe{lo n:Nat}{Q:ForInStep (Option Unit×Nat)->BV->Prop}(K:lG prog w A E s κ r a₀)(S:SR κ r a₀ lo st)(n1:1<=n)(hn:lo+n<=a₀.size)(ha:AscR r (AK st) lo (lo+n))(h:∀st',SR κ r a₀ (lo+n) st'->Q (.yield (none,lo+n)) st'):wpS (AE prog w) A E s (zT lo n a₀.size) Q st:=by
 unfold zT;refine AF (wpS_get ?_)
 have fin:∀st',SR κ r a₀ lo st'->AscR r (AK st') lo (lo+n)->SR κ r a₀ (lo+n) (BJ st' ((AC st').push (lo,n,0))):=λst' S' ha'=>by refine⟨⟨S'.sb.perm,S'.sb.kind,S'.sb.failed⟩, ?_⟩;show Runs r (AK st') 0 ((AC st').push (lo,n,0)).toList (lo+n);rw[jA];exact S'.runs.app ⟨rfl,n1,ha',rfl⟩
 cases hb:(AC st).back? with
 |none=>exact AF (BC (AJ (h _ (fin st S ha))))
 |some p=>
  obtain⟨s1,n1',p1⟩:=p;dsimp only;generalize power' a₀.size (2*s1+n1') (2*s1+n1'+n1'+n) a₀.size=pw
  have ne0:1<=(AC st).size:=by
   rcases Nat.eq_zero_or_pos (AC st).size with z|z
   ·rw[Array.eq_empty_of_size_eq_zero z] at hb;cases hb
   ·exact z
  refine AF (Aa (AU (I:=λ_ c st'=>c=(none,())/\SR κ r a₀ lo st'/\1<=(AC st').size/\AscR r (AK st') lo (lo+n)) (Q:=λc st'=>c=(none,())/\SR κ r a₀ lo st'/\1<=(AC st').size/\AscR r (AK st') lo (lo+n)) ?step (λ_ _ z=>z) ⟨rfl,S,ne0,ha⟩) ?post)
  case step=>
   rintro x c st' _ hx ⟨rfl,S',ne',ha'⟩;unfold aPc;refine AF (wpS_get ?_)
   by_cases q:(AC st').size>1
   ·rw[if_pos q,getElem?_pos _ _ (by omega)];dsimp only
    split
    ·exact AJ ⟨rfl,S',ne',ha'⟩
    ·refine AF (aDE K S'.sb S'.runs (by omega) (by omega) λst'' hB hr hs hk=> ?_);rw[if_neg (by decide)];exact AJ ⟨rfl,⟨hB,hr⟩,by omega,ha'.keep λt t1 _=>hk t t1⟩
   ·rw[if_neg q];exact AJ ⟨rfl,S',ne',ha'⟩
  case post=>
   rintro c st' ⟨rfl,S',ne',ha'⟩;dsimp only;refine AF (BC (AF (BC (AJ (h _ (fin (BJ st' ((AC st').modify ((AC st').size-1) λ(x:Nat×Nat×Nat)=>(x.1,x.2.1,pw))) ⟨⟨S'.sb.perm,S'.sb.kind,S'.sb.failed⟩, ?_⟩ ha'))))));show Runs r (AK st') 0 ((AC st').modify ((AC st').size-1) λ(x:Nat×Nat×Nat)=>(x.1,x.2.1,pw)).toList lo
   have hl:(AC st').toList≠[]:=λz=>by have:=congrArg xG z;rw[cR,iB] at this;omega
   have e1:=(lK hl).symm;have R:=S'.runs;rw[e1] at R
   have e2:((AC st').modify ((AC st').size-1) λ(x:Nat×Nat×Nat)=>(x.1,x.2.1,pw)).toList=(AC st').toList.dropLast++[(((AC st').toList.getLast hl).1,((AC st').toList.getLast hl).2.1,pw)]:=by
    apply nO;intro t;rw[dG,Array.getElem?_modify];have ld:(AC st').toList.dropLast.length=(AC st').size-1:=by simp
    by_cases q:(AC st').size-1=t
    ·rw[if_pos q,fR (by rw[ld];omega),ld,q,pF,<-q];rw[List.getLast_eq_getElem];have:(AC st').size-1<(AC st').size:=by omega
     simp[this]
    ·rw[if_neg q]
     by_cases q2:t<(AC st').size-1
     ·rw[gA (by rw[ld];exact q2),List.getElem?_dropLast,if_pos (by simpa using q2),dG]
     ·rw[fR (by rw[ld];omega),ld];rw[iN (by omega),dW (by simp;omega)]
   rw[e2];exact R.pow rfl rfl
theorem aEi{Q:Unit->BV->Prop}(K:lG prog w A E s κ r a₀)(hB:SB κ a₀ st)(hp:AC st= #[])(h:∀st',SB κ a₀ st'->AscR r (AK st') 0 a₀.size->Q () st'):wpS (AE prog w) A E s sortRuns' Q st:=by
 rw[aMy];unfold srM;refine AF (wpS_get ?_);have sz:=hB.size;rw[sz];generalize minRun' a₀.size a₀.size 0=minrun;refine AF (Aa (AU (I:=λx c st'=>∃lo,c=(none,lo)/\SR κ r a₀ lo st'/\lo<=a₀.size/\(x<=lo\/lo=a₀.size)) (Q:=λc st'=>c=(none,a₀.size)/\SR κ r a₀ a₀.size st') ?step ?fin ⟨0,rfl,⟨hB,by rw[hp];rfl⟩,bS _,.inl (aM _)⟩) ?post)
 case fin=>
  rintro c st' ⟨lo,rfl,S,h1,h2⟩;have:lo=a₀.size:=by omega
  subst this;exact⟨rfl,S⟩
 case step=>
  rintro x c st' _ hx ⟨lo,rfl,S,h1,h2⟩;unfold aHj;dsimp only
  by_cases q:lo>=a₀.size
  ·rw[if_pos q];have:lo=a₀.size:=by omega
   subst this;exact AJ ⟨rfl,S⟩
  ·rw[if_neg q];refine AF (aCe K S.sb (by omega) (by omega) λm st2 m1 m2 T ha=> ?_);have S2:SR κ r a₀ lo st2:=⟨T.sb,by rw[T.pend];exact S.runs.keep λt _ t2=>T.keep t (.inl t2)⟩;dsimp only
   by_cases z:m<minrun
   ·rw[if_pos z];refine AF (wpS_lift (Au ⟨rfl, ?_⟩));refine AF (aGc K S2.sb (by omega) (by omega) ha λst3 T3 ha3=> ?_);rw[if_neg (by decide)];refine aBe K ⟨T3.sb,by rw[T3.pend];exact S2.runs.keep λt _ t2=>T3.keep t (.inl t2)⟩ (by omega) (by omega) ha3 λst4 S4=>⟨_,rfl,S4,by omega,.inl (by omega)⟩
   ·rw[if_neg z];exact aBe K S2 m1 (by omega) ha λst4 S4=>⟨_,rfl,S4,by omega,.inl (by omega)⟩
 case post=>
  rintro c st' ⟨rfl,S⟩;dsimp only
  have pl:(AC st').size<=a₀.size:=by have:=S.runs.le;simpa using this
  refine AF (Aa (AU (I:=λx c st''=>c=(none,())/\SR κ r a₀ a₀.size st''/\(AC st'').size<=a₀.size-x) (Q:=λc st''=>c=(none,())/\SR κ r a₀ a₀.size st''/\(AC st'').size<=1) ?step2 ?fin2 ⟨rfl,S,by omega⟩) ?post2)
  case fin2=>rintro c st'' ⟨rfl,S,h1⟩;exact⟨rfl,S,by omega⟩
  case step2=>
   rintro x c st'' _ hx ⟨rfl,S,h1⟩;unfold aLx;refine AF (wpS_get ?_)
   by_cases q:(AC st'').size<=1
   ·rw[if_pos q];exact AJ ⟨rfl,S,q⟩
   ·rw[if_neg q];have go:∀i,i+1<(AC st'').size->wpS (AE prog w) A E s (mergeAt' i) (λb st'=>b=true/\SR κ r a₀ a₀.size st'/\(AC st').size<=a₀.size-(x+1)) st'':=λi hi=>aDE K S.sb S.runs (aM _) hi λst3 hB3 hr hs hk=>⟨rfl,⟨hB3,hr⟩,by omega⟩
    refine AF (Aa (go _ ?_) λb st3 hb=> ?_)
    ·have bd:∀c:Bool,(if c=true then(AC st'').size-2-1 else(AC st'').size-2)+1<(AC st'').size:=λc=>by
      cases c
      ·rw[if_neg (by decide)];omega
      ·rw[if_pos rfl];omega
     exact bd _
    ·obtain⟨rfl,S3,h3⟩:=hb;rw[if_neg (by decide)];exact AJ ⟨rfl,S3,h3⟩
  case post2=>
   rintro c st'' ⟨rfl,S,h1⟩;refine AJ (h st'' S.sb ?_);have R:=S.runs;generalize e:(AC st'').toList=l at R;have ll:l.length<=1:=by rw[<-e];simpa using h1
   match l,ll with
   |[],_=>have:0=a₀.size:=R;intro i j _ _ hj;omega
   |[p],_=>obtain⟨_,_,b,c⟩:=R;have c:0+p.2.1=a₀.size:=c;rw[c] at b;exact b
end
open PySem.W (KasT kas_sort kas_asc kas_desc kas_tail3 kas_descPart kas_count kas_place kas_bin kas_rev kas_ask kas_item kat_lt kat_cons kat_nil kat_yes kat_no kat_one kat_kind kat_run kat_snds KatTups)
inductive Bel{α:Type}(n:Nat)(P:α->Prop):KasT α->Prop
 |ret {a:α}:P a->Bel n P (.ret a)
 |ask {i j:Nat}{k:Bool->KasT α}:i<n->j<n->(∀b,Bel n P (k b))->Bel n P (.ask i j k)
def aMZ(h:BS)(v:BO)(x:Int×Int):Prop:=∃a o n t u,v=.ref a/\h.get? a=some o/\o.cls=.type "tuple"/\o.data=.seq #[.int x.1 t,.int x.2 u] n
inductive aAs(h:BS):List BO->List (Int×Int)->Prop
 |nil:aAs h [] []
 |cons {v:BO}{x:Int×Int}{vs:List BO}{ps:List (Int×Int)}:aMZ h v x->aAs h vs ps->aAs h (v::vs) (x::ps)
open PySem.W (KasT kas_sort kas_asc kas_desc kas_tail3 kas_descPart kas_count kas_place kas_bin kas_rev)
structure Ord(n:Nat)(ans:Nat->Nat->Bool):Prop where
 tr:∀i j k,i<n->j<n->k<n->ans i j=true->ans j k=true->ans i k=true
 ir:∀i,i<n->ans i i=false
 tt:∀i j,i<n->j<n->i≠j->ans i j=true\/ans j i=true
noncomputable abbrev gN(p:Array Nat)(k:Nat):Nat:=p.getD k 0
open PySem.W (KasT kas_sort kas_asc kas_desc kas_tail3 kas_descPart kas_count kas_place kas_bin kas_rev kas_ask kas_item kat_lt kat_cons kat_nil kat_yes kat_no kat_one kat_kind kat_run kat_snds KatTups KatLex)
noncomputable def aHb(fin:Bool):List Int->List Int->Bool
 |a::as,b::bs=>if(a==b)=true then aHb fin as bs else decide (a<b)
 |_,_=>fin
noncomputable def ltI(x y:List Int):Bool:=aHb (decide (x.length<y.length)) x y
def TupAt1(h:BS)(v:BO)(x:List Int):Prop:=∃a o n,∃its:List BO,v=.ref a/\h.get? a=some o/\o.cls=.type "tuple"/\o.data=.seq its.toArray n/\IntsAre its x/\x≠[]
inductive TupsAt(h:BS):List BO->List (List Int)->Prop
 |nil:TupsAt h [] []
 |cons {v:BO}{x:List Int}{vs:List BO}{ps:List (List Int)}:TupAt1 h v x->TupsAt h vs ps->TupsAt h (v::vs) (x::ps)
theorem TupsAt.tups{h:BS}{vs:List BO}{ps:List (List Int)}(p:TupsAt h vs ps):∃fs:List BO,KatTups h vs fs/\fs.length=ps.length/\∀v∈fs,∃i t,v=.int i t:=by
 induction p with
 |nil=>exact⟨[],.nil,rfl,λv hv=>by cases hv⟩
 |cons a _ ih=>
  obtain⟨a,o,n,its,rfl,g,c,d,hi,hne⟩:=a;obtain⟨fs,k,l,i⟩:=ih;cases hi with
  |nil=>exact absurd rfl hne
  |cons z t hi=>
   refine⟨.int z t::fs,.cons g c d (by simp) k,by rw[bU,bU,l],λv hv=> ?_⟩
   rcases aQ.mp hv with rfl|hv
   ·exact⟨_,_,rfl⟩
   ·exact i v hv
section
variable {prog:AG}{w:AL}{A:BR}{E:BO->BP->Prop}{s:BP}
theorem aOY{fin:Bool}{Q:Bool->BP->Prop}:∀ {x y:List Int}{vs us:List BO} (i:Nat),IntsAre vs x->IntsAre us y->Q (aHb fin x y) s->KatLex prog w A true fin Q (vs.zip us) (i+1) s
 |[],y,_,us,i,.nil,_,h=>by
  have e:aHb fin [] y=fin:=by cases y<;>rfl
  rw[e] at h;rw[aIh];exact kat_nil h
 |a::as,[],_::_,_,i,.cons _ _ _,.nil,h=>by rw[aGV];exact kat_nil h
 |a::as,b::bs,_::_,_::_,i,.cons _ t h1,.cons _ u h2,h=>by
  rw[eR];refine kat_cons (wpAny_eqBool_int ?_)
  by_cases e:(a==b)=true
  ·rw[e];refine kat_yes (aOY (i+1) h1 h2 ?_);unfold aHb at h;rw[if_pos e] at h;exact h
  ·rw[tY.mpr e];unfold aHb at h;rw[if_neg e] at h;refine kat_no ?_;have e0:(true&&(i+1==0))=false:=by simp
   rw[e0];exact kat_one _ _ (PyProof.Rows.lt_int h)
theorem askI{v1 v2:BO}{x y:List Int}{Q:Bool->BP->Prop}(h1:TupAt1 s.heap v1 x)(h2:TupAt1 s.heap v2 y)(h:Q (ltI x y) s):AH (AE prog w) A (keyLt' (tuples' true) v1 v2) Q E s:=by
 obtain⟨a,o,n,its,rfl,g,c,d,i1,e1⟩:=h1;obtain⟨a2,o2,n2,its2,rfl,g2,c2,d2,i2,e2⟩:=h2;have l1:its.length=x.length:=i1.length;have l2:its2.length=y.length:=i2.length;refine kat_lt g d g2 d2 ?_;unfold ltI at h;rw[aW,aW,l1,l2];show KatLex prog w A true _ Q (its.zip its2) 0 s;cases i1 with
 |nil=>exact absurd rfl e1
 |cons p t i1=>
  cases i2 with
  |nil=>exact absurd rfl e2
  |cons q u i2=>
   rw[eR];refine kat_cons (wpAny_eqBool_int ?_)
   by_cases e:(p==q)=true
   ·rw[e];refine kat_yes (aOY 0 i1 i2 ?_);unfold aHb at h;rw[if_pos e] at h;exact h
   ·rw[tY.mpr e];unfold aHb at h;rw[if_neg e] at h;exact kat_no (oneLt_int h)
theorem aOL{vs:List BO}{ps:List (List Int)}{Q:Ap->BP->Prop}(p:TupsAt s.heap vs ps)(h0:0<ps.length)(h:Q (tuples' true) s):AH (AE prog w) A (keyKind' vs.toArray) Q E s:=by obtain⟨fs,k,l,i⟩:=p.tups;refine kat_kind (T:=.type "int") k (by omega) (λv hv=> ?_) rfl h;obtain⟨n,t,rfl⟩:=i v hv;exact .now
end
theorem wC{a b:List Nat}{j:Nat}(ha:∀x∈a,x<j)(hb:∀x∈b,j<=x):∀ (fuel lo hi:Nat),hi-lo<=fuel->lo<=a.length->a.length<=hi->hi<=(a++b).length->gC.go (a++b).toArray j fuel lo hi=a.length
 |0,lo,hi,h1,h2,h3,h4=>by unfold gC.go;omega
 |fuel+1,lo,hi,h1,h2,h3,h4=>by
  unfold gC.go
  by_cases hlt:lo<hi
  ·rw[if_pos hlt];have hm:(lo+hi) / 2<hi:=by omega
   have hl:(lo+hi) / 2<(a++b).length:=by omega
   have hl2:(lo+hi) / 2<a.length+b.length:=by rw[<-bB];exact hl
   have e:(a++b).toArray.getD ((lo+hi) / 2) j=(a++b)[(lo+hi) / 2]:=by simp[Array.getD,hl2]
   dsimp only;rw[e]
   by_cases hc:(lo+hi) / 2<a.length
   ·have:(a++b)[(lo+hi) / 2]<j:=by rw[List.getElem_append_left hc];exact ha _ (gY hc)
    rw[if_pos this];exact wC ha hb fuel _ _ (by omega) (by omega) h3 h4
   ·have hb':j<=(a++b)[(lo+hi) / 2]:=by rw[List.getElem_append_right (by omega)];exact hb _ (gY _)
    rw[if_neg (by omega)];exact wC ha hb fuel _ _ (by omega) h2 (by omega) (by omega)
  ·rw[if_neg hlt];omega
theorem sG{a b:List Nat}{j:Nat}(ha:∀x∈a,x<j)(hb:∀x∈b,j<=x):gC (a++b).toArray j=a.length:=by unfold gC;rw[aW];exact wC ha hb _ _ _ (by omega) (bS _) (by simp) (aM _)
theorem aCF(j:Nat):∀ {xs:List Nat},xs.Pairwise (·<·)->∃a b,xs=a++b/\(∀x∈a,x<j)/\∀x∈b,j<=x
 |[],_=>⟨[],[],rfl,(λx h=>by cases h),λx h=>by cases h⟩
 |x::xs,h=>by
  obtain⟨h1,h2⟩:=fH.mp h
  by_cases hx:x<j
  ·obtain⟨a,b,e,ha,hb⟩:=aCF j h2;refine⟨x::a,b,by rw[e];rfl,λy hy=> ?_,hb⟩
   rcases aQ.mp hy with rfl|hy
   ·exact hx
   ·exact ha y hy
  ·refine⟨[],x::xs,rfl,(λy h=>by cases h),λy hy=> ?_⟩
   rcases aQ.mp hy with rfl|hy
   ·omega
   ·have:=h1 y hy;omega
noncomputable def vB(m:Nat)(p:SetTable.Probe):SetTable.Probe:=if p.more>0 then{p with j:=p.j+1,more:=p.more-1} else{p with j:=(mM m p.i p.perturb).1,more:=cA m (mM m p.i p.perturb).1-(mM m p.i p.perturb).1,i:=(mM m p.i p.perturb).1,perturb:=(mM m p.i p.perturb).2}
noncomputable def at0(m i q:Nat):SetTable.Probe:={j:=i,more:=cA m i-i,i:=i,perturb:=q,dummy:=none}
noncomputable def pr(m:Nat)(h:Int):Nat->SetTable.Probe
 |0=>at0 m (cG h%(m+1)) (cG h)
 |n+1=>vB m (pr m h n)
theorem vP(m:Nat)(h:Int):∀n,(pr m h n).dummy=none
 |0=>rfl
 |n+1=>by
  show(vB m (pr m h n)).dummy=none;unfold vB
  split
  ·exact vP m h n
  ·exact vP m h n
noncomputable def lp(m:Nat)(h:Int):Nat->Nat
 |0=>cG h%(m+1)
 |k+1=>(lp m h k*5+1+cG h / 32^k / 32)%(m+1)
theorem aMG(m i:Nat):cA m i-i<=9:=by
 unfold cA
 split<;>omega
theorem sT(m:Nat)(h:Int)(n i q:Nat)(e:pr m h n=at0 m i q):∀r,r<=cA m i-i->pr m h (n+r)={at0 m i q with j:=i+r,more:=cA m i-i-r}
 |0,_=>e
 |r+1,hr=>by have ih:=sT m h n i q e r (by omega);show vB m (pr m h (n+r))=_;rw[ih];unfold vB;rw[if_pos (by show cA m i-i-r>0;omega)];rfl
theorem aDm(m:Nat)(h:Int):∀k,∃n,n<=10*k/\pr m h n=at0 m (lp m h k) (cG h / 32^k)
 |0=>⟨0,aM _,by show at0 _ _ _=_;rw[aFe,aGY];rfl⟩
 |k+1=>by
  obtain⟨n,hn,e⟩:=aDm m h k;have r9:=aMG m (lp m h k);have e2:=sT m h n _ _ e _ (aM _);refine⟨n+(cA m (lp m h k)-lp m h k)+1,by omega, ?_⟩;show vB m (pr m h _)=_;rw[e2];unfold vB;rw[if_neg (by show ¬ (cA m (lp m h k)-lp m h k-(cA m (lp m h k)-lp m h k)>0);omega)];show at0 m _ _=at0 m _ _;have z:cG h / 32^(k+1)=cG h / 32^k / 32:=by rw[pD,pG]
  rw[z];rfl
noncomputable def itM(m:Nat):Nat->Nat->Nat
 |0,i=>i
 |q+1,i=>(itM m q i*5+1)%(m+1)
theorem aJX(h:Int):cG h<2^64:=by unfold cG;have h1:=dP h (show((2:Int)^64)≠0 by decide);have h2:=cK h (show(0:Int)<2^64 by decide);omega
theorem aAo(m:Nat)(h:Int):∀q,lp m h (13+q)=itM m q (lp m h 13)
 |0=>rfl
 |q+1=>by
  show(lp m h (13+q)*5+1+cG h / 32^(13+q) / 32)%(m+1)=(itM m q (lp m h 13)*5+1)%(m+1);rw[aAo m h q]
  have z:cG h / 32^(13+q)=0:=by refine Nat.div_eq_of_lt (aY (aJX h) ?_);exact cO (show 2^64<=32^13 by decide) (lJ (by decide) (xH _ _))
  rw[z]
theorem aNU(m:Nat)(h:Int):∀k,lp m h k<m+1
 |0=>tR _ (uF _)
 |k+1=>tR _ (uF _)
def okM(m:Nat):Prop:=m=7\/m=31\/m=63\/m=127\/m=255
noncomputable def orb(m:Nat):Nat->List Nat->List Nat
 |0,l=>l
 |n+1,l=>orb m n (((l.headD 0)*5+1)%(m+1)::l)
theorem uL(m:Nat)(b:Nat):∀ (a i:Nat),itM m (b+a) i=itM m a (itM m b i)
 |0,_=>rfl
 |a+1,i=>by show(itM m (b+a) i*5+1)%(m+1)=(itM m a (itM m b i)*5+1)%(m+1);rw[uL m b a i]
theorem aDs(m:Nat):∀ (n k:Nat) (l:List Nat),(∀x∈l,∃q,q<=k/\itM m q 0=x)->l.headD 0=itM m k 0->∀x∈orb m n l,∃q,q<=k+n/\itM m q 0=x
 |0,k,l,h,_,x,hx=>h x hx
 |n+1,k,l,h,hd,x,hx=>by
  have e:((l.headD 0)*5+1)%(m+1)=itM m (k+1) 0:=by rw[hd];rfl
  obtain ⟨q,q1,q2⟩:=aDs m n (k+1) (((l.headD 0) * 5+1)%(m+1)::l) (fun y hy=>by
   rcases aQ.mp hy with z|z
   ·exact⟨k+1,aM _,by rw[z,e]⟩
   ·obtain⟨q,q1,q2⟩:=h y z
    exact⟨q,by omega,q2⟩) e x hx
  exact⟨q,by omega,q2⟩
noncomputable def aOX(m:Nat):Bool:=((bK (m+1)).all λe=>(orb m m [0]).contains e)&&itM m (m+1) 0==0
theorem aCu{m:Nat}(h:aOX m=true){i e:Nat}(hi:i<m+1)(he:e<m+1):∃q,q<m+1/\itM m q i=e:=by
 simp only[aOX,bM,beq_iff_eq] at h;obtain⟨h1,h2⟩:=h
 have at0:∀e,e<m+1->∃q,q<=m/\itM m q 0=e:=λe he=>by have:=gX.mp h1 e (bP.mpr he);obtain⟨q,q1,q2⟩:=aDs m m 0 [0] (λx hx=>⟨0,aM _,by rw[aJ.mp hx];rfl⟩) rfl e (List.contains_iff_mem.mp this);exact⟨q,by omega,q2⟩
 obtain⟨a,a1,a2⟩:=at0 i hi;obtain⟨b,b1,b2⟩:=at0 e he
 by_cases z:a<=b
 ·refine⟨b-a,by omega, ?_⟩;rw[<-a2,<-uL,show a+(b-a)=b by omega];exact b2
 ·refine⟨b+(m+1)-a,by omega, ?_⟩;rw[<-a2,<-uL,show a+(b+(m+1)-a)=(m+1)+b by omega,uL,h2];exact b2
theorem cov{m:Nat}(hm:okM m){i e:Nat}(hi:i<m+1)(he:e<m+1):∃q,q<m+1/\itM m q i=e:=by
 rcases hm with rfl|rfl|rfl|rfl|rfl
 ·exact aCu (by decide+kernel) hi he
 ·exact aCu (by decide+kernel) hi he
 ·exact aCu (by decide+kernel) hi he
 ·exact aCu (by decide+kernel) hi he
 ·exact aCu (by decide+kernel) hi he
theorem aBi{m:Nat}(hm:okM m)(h:Int){e:Nat}(he:e<m+1):∃k n,k<m+14/\lp m h k=e/\n<=10*k/\(pr m h n).j=e:=by obtain⟨q,hq,eq⟩:=cov hm (aNU m h 13) he;obtain⟨n,hn,en⟩:=aDm m h (13+q);refine⟨13+q,n,by omega,by rw[aAo];exact eq,hn, ?_⟩;rw[en,aAo,eq];rfl
def pbQ(m:Nat)(p:SetTable.Probe):Prop:=p.j<=m/\p.j+p.more<=m/\p.i<m+1
theorem aHk{m:Nat}(i:Nat)(q:Nat)(d:Option Nat)(hi:i<m+1):pbQ m {j:=i,more:=cA m i-i,i:=i,perturb:=q,dummy:=d}:=by
 refine⟨by show i<=m;omega, ?_,hi⟩;show i+(cA m i-i)<=m;unfold cA
 split<;>omega
theorem aJx{m:Nat}{p:SetTable.Probe}(h:pbQ m p):pbQ m (vB m p):=by
 obtain⟨h1,h2,h3⟩:=h;unfold vB
 split
 ·exact⟨by show p.j+1<=m;omega,by show p.j+1+(p.more-1)<=m;omega,h3⟩
 ·exact aHk _ _ _ (tR _ (uF _))
theorem aNM{m:Nat}(h:Int):∀n:Nat,pbQ m (pr m h n)
 |0=>aHk _ _ _ (tR _ (uF _))
 |n+1=>aJx (aNM h n)
noncomputable abbrev iR:=Nat×List Key×BQ
structure TabT(hs:List Key->Int)(t:BW)(es:Array (Int×BO))(T:List iR):Prop where
 om:okM t.mask
 pl:t.place=(T.map (·.1)).toArray
 en:es=(T.map λr=>(hs r.2.1,Value.ref r.2.2)).toArray
 du:t.dummies= #[]
 rs:(T.map (·.1)).Pairwise (·<·)
 lt:∀r∈T,r.1<=t.mask
 rc:∀r∈T,∃n,(pr t.mask (hs r.2.1) n).j=r.1/\∀i,i<n->(pr t.mask (hs r.2.1) i).j∈T.map (·.1)
 kn:(T.map (·.2.1)).Nodup
section
variable {hs:List Key->Int}{t:BW}{es:Array (Int×BO)}{T:List iR}
theorem TabT.slot_live(X:TabT hs t es T){A B:List iR}{r:iR}(e:T=A++r::B):t.slot r.1=.live A.length:=by
 have h:=X.rs;rw[e,aP,aX] at h;obtain⟨_,h2,h3⟩:=fO.mp h
 have hb:=sG (a:=A.map (·.1)) (b:=r.1::B.map (·.1)) (j:=r.1) (λx hx=>h3 x hx r.1 aH) λx hx=>by
  rcases aQ.mp hx with rfl|hx
  ·exact aM _
  ·exact cW ((fH.mp h2).1 x hx)
 unfold aIn;rw[X.pl,e,aP,aX,hb];simp
theorem TabT.slot_empty(X:TabT hs t es T){j:Nat}(h:j∉T.map (·.1)):t.slot j=.empty:=by
 obtain⟨a,b,e,ha,hb⟩:=aCF j X.rs;have hbl:=sG ha hb;unfold aIn;rw[X.pl,X.du,e,hbl]
 have hn:((a++b).toArray[a.length]? ==some j)=false:=by
  cases b with
  |nil=>simp
  |cons y b=>
   have:y≠j:=λz=>h (by rw[e,<-z];simp)
   simp[this]
 dsimp only;rw[hn];rfl
theorem aGu{j:Nat}(h:j∈T.map (·.1)):∃A r B,T=A++r::B/\r.1=j:=by obtain⟨r,hr,e⟩:=aO.mp h;obtain⟨A,B,q⟩:=aGX hr;exact⟨A,r,B,q,e⟩
theorem TabT.same_row(X:TabT hs t es T){r r':iR}(h:r∈T)(h':r'∈T)(e:r.1=r'.1):r=r':=by
 obtain⟨A,B,q⟩:=aGX h;have hp:=X.rs;rw[q,aP,aX] at hp;obtain⟨_,h2,h3⟩:=fO.mp hp;rw[q] at h'
 rcases bC.mp h' with z|z
 ·have:=h3 r'.1 (cN z) r.1 aH;omega
 ·rcases aQ.mp z with z|z
  ·exact z.symm
  ·have:=(fH.mp h2).1 r'.1 (cN z);omega
theorem aCW(X:TabT hs t es T){hashAt:Nat->Int}(hh:∀A r B,T=A++r::B->hashAt A.length=hs r.2.1)(h:Int):∀ (fuel n e:Nat),n<=e->e-n<fuel->(pr t.mask h e).j∉T.map (·.1)->
  ∃k,n<=k/\k<=e/\(∀i,n<=i->i<k->(pr t.mask h i).j∈T.map (·.1)/\∀r∈T,r.1=(pr t.mask h i).j->hs r.2.1≠h)/\
   (((pr t.mask h k).j∉T.map (·.1)∧iD.go t hashAt h fuel (pr t.mask h n)=some (.empty (pr t.mask h k).j none))∨
    ∃A r B,T=A++r::B/\r.1=(pr t.mask h k).j/\hs r.2.1=h/\iD.go t hashAt h fuel (pr t.mask h n)=some (.candidate (pr t.mask h k).j A.length (pr t.mask h (k+1))))
 |0,n,e,h1,h2,h3=>by omega
 |fuel+1,n,e,h1,h2,h3=>by
  by_cases hm:(pr t.mask h n).j∈T.map (·.1)
  ·obtain⟨A,r,B,q,er⟩:=aGu hm;have hl:=X.slot_live q;rw[er] at hl
   have hlt:n<e:=by
    rcases eD h1 with z|z
    ·exact z
    ·rw[z] at hm;exact absurd hm h3
   by_cases hq:hs r.2.1=h
   ·refine⟨n,aM _,h1,(λi a b=>by omega),.inr ⟨A,r,B,q,er,hq, ?_⟩⟩;unfold iD.go;rw[hl];simp only;rw[hh A r B q,hq];simp;rfl
   ·obtain⟨k,k1,k2,k3,k4⟩:=aCW X hh h fuel (n+1) e hlt (by omega) h3;refine⟨k,by omega,k2,λi a b=> ?_, ?_⟩
    ·rcases eD a with z|z
     ·exact k3 i z b
     ·subst z;refine⟨hm,λr' hr' e'=> ?_⟩;have:r'=r:=X.same_row hr' (by rw[q];simp) (e'.trans er.symm);rw[this];exact hq
    ·have st:iD.go t hashAt h (fuel+1) (pr t.mask h n)=iD.go t hashAt h fuel (pr t.mask h (n+1)):=by
      conv=>lhs;unfold iD.go
      rw[hl];simp only;rw[hh A r B q,if_neg (by simpa using hq)];rfl
     rw[st];exact k4
  ·refine⟨n,aM _,h1,(λi a b=>by omega),.inl ⟨hm, ?_⟩⟩;unfold iD.go;rw[X.slot_empty hm];simp only;rw[vP]
theorem TabT.room(X:TabT hs t es T)(hl:T.length<=t.mask)(h:Int):∃e,e<10*gS t.mask/\(pr t.mask h e).j∉T.map (·.1)/\∀i,i<e->(pr t.mask h i).j∈T.map (·.1):=by
 have ex:∃j,j<t.mask+1/\j∉T.map (·.1):=by
  refine Classical.byContradiction λhn=> ?_
  have all:∀j∈bK (t.mask+1),j∈T.map (·.1):=λj hj=>Classical.byContradiction λz=>hn ⟨j,bP.mp hj,z⟩
  have:=(lA (n:=t.mask+1)).length_le_of_subset all;rw[eM,aB] at this;omega
 obtain⟨j,hj,hn⟩:=ex;obtain⟨k,n,h1,h2,h3,h4⟩:=aBi X.om h hj;have:∃e,(pr t.mask h e).j∉T.map (·.1):=⟨n,by rw[h4];exact hn⟩
 obtain⟨e,he,hmin⟩:∃e,(pr t.mask h e).j∉T.map (·.1)/\∀i,i<e->¬ (pr t.mask h i).j∉T.map (·.1):=by
  refine Classical.byContradiction λz=> ?_
  have noall:∀m,∀i,i<m->¬ (pr t.mask h i).j∉T.map (·.1):=λm=>by
   induction m with
   |zero=>intro i hi;omega
   |succ m ih=>
    intro i hi hc
    rcases eD (Nat.le_of_lt_succ hi) with q|q
    ·exact ih i q hc
    ·subst q;exact z ⟨i,hc,ih⟩
  obtain⟨e,he⟩:=this;exact noall (e+1) e (jO _) he
 refine⟨e, ?_,he,λi hi=>Classical.byContradiction λz=>hmin i hi z⟩;have:e<=n:=aKL λz=>hmin n z (by rw[h4];exact hn)
 unfold gS;omega
theorem TabT.ahead(X:TabT hs t es T){r:iR}(hr:r∈T){e:Nat}(he:(pr t.mask (hs r.2.1) e).j∉T.map (·.1)):∃n,n<e/\(pr t.mask (hs r.2.1) n).j=r.1:=by
 obtain⟨n,h1,h2⟩:=X.rc r hr;refine⟨n,Nat.lt_of_not_le λz=> ?_,h1⟩
 rcases eD z with q|q
 ·exact he (h2 e q)
 ·subst q;exact he (by rw[h1];exact cN hr)
theorem cutT{T:List iR}(h:(T.map (·.1)).Pairwise (·<·)){j:Nat}(hj:j∉T.map (·.1)):∃A B,T=A++B/\(∀r∈A,r.1<j)/\∀r∈B,j<r.1:=by
 obtain⟨a,b,e,ha,hb⟩:=aCF j h;refine⟨T.take a.length,T.drop a.length,(hV _ _).symm,λr hr=> ?_,λr hr=> ?_⟩
 ·have:r.1∈(T.take a.length).map (·.1):=cN hr;rw[nR,e,List.take_left] at this;exact ha _ this
 ·have h1:r.1∈(T.drop a.length).map (·.1):=cN hr;rw[lC,e,List.drop_left] at h1;have h2:=hb _ h1
  rcases eD h2 with q|q
  ·exact q
  ·exact absurd (cN (lF hr)) (by rw[q] at hj;exact hj)
theorem TabT.put(X:TabT hs t es T){j:Nat}{k:List Key}{a:BQ}(hj:j∉T.map (·.1))(hm:j<=t.mask)(hk:k∉T.map (·.2.1))(hr:∃n,(pr t.mask (hs k) n).j=j/\∀i,i<n->(pr t.mask (hs k) i).j∈T.map (·.1))(b:Bool):
  ∃A B,T=A++B/\TabT hs {(t.put j).1 with plain:=b} (iU es (t.put j).2 (hs k,.ref a)) (A++(j,k,a)::B):=by
 obtain⟨A,B,e,hA,hB⟩:=cutT X.rs hj
 have hbl:gC t.place j=A.length:=by rw[X.pl,e,aP];rw[sG (a:=A.map (·.1)) (b:=B.map (·.1)) (λx hx=>by obtain⟨r,hr,rfl⟩:=aO.mp hx;exact hA r hr) λx hx=>by obtain⟨r,hr,rfl⟩:=aO.mp hx;exact cW (hB r hr)];rw[aB]
 have e1:(t.put j).2=A.length:=hbl
 have e2:(t.put j).1.place=((A++(j,k,a)::B).map (·.1)).toArray:=by show iU t.place (gC t.place j) j=_;rw[hbl,X.pl,aLn,e];congr 1;rw[aP,aP,aX,aKI (by rw[aB]),aKJ (by rw[aB])]
 have e3:(t.put j).1.dummies= #[]:=by show(if SetTable.has t.dummies j then _ else t.dummies)= #[];rw[X.du];rfl
 have mem:∀ {x:Nat},x∈T.map (·.1)->x∈(A++(j,k,a)::B).map (·.1):=λ{x} hx=>by
  rw[e,aP] at hx;rw[aP,aX]
  rcases bC.mp hx with z|z
  ·exact bZ _ z
  ·exact aS _ (aI _ z)
 have rows:∀ {r:iR},r∈A++(j,k,a)::B->r=(j,k,a)\/r∈T:=λ{r} hr=>by
  rcases bC.mp hr with z|z
  ·exact .inr (by rw[e];exact bZ _ z)
  ·rcases aQ.mp z with z|z
   ·exact .inl z
   ·exact .inr (by rw[e];exact aS _ z)
 refine⟨A,B,e,X.om,e2, ?_,e3, ?_,λr hr'=> ?_,λr hr'=> ?_, ?_⟩
 ·rw[e1,X.en,aLn,e];congr 1;rw[aP,aP,aX,aKI (by rw[aB]),aKJ (by rw[aB])]
 ·have hp:=X.rs;rw[e,aP] at hp;obtain⟨p1,p2,p3⟩:=fO.mp hp;rw[aP,aX];refine fO.mpr ⟨p1,fH.mpr ⟨λx hx=> ?_,p2⟩,λx hx y hy=> ?_⟩
  ·obtain⟨r,hr,rfl⟩:=aO.mp hx;exact hB r hr
  ·obtain⟨r,hrA,rfl⟩:=aO.mp hx
   rcases aQ.mp hy with hy|hy
   ·rw[show y=j from hy];exact hA r hrA
   ·exact p3 _ (cN hrA) y hy
 ·rcases rows hr' with rfl|z
  ·exact hm
  ·exact X.lt r z
 ·rcases rows hr' with rfl|z
  ·obtain⟨n,q1,q2⟩:=hr;exact⟨n,q1,λi hi=>mem (q2 i hi)⟩
  ·obtain⟨n,q1,q2⟩:=X.rc r z;exact⟨n,q1,λi hi=>mem (q2 i hi)⟩
 ·have hn:=X.kn;rw[e,aP] at hn hk;obtain⟨n1,n2,n3⟩:=bJ.mp hn;rw[aP,aX];refine bJ.mpr ⟨n1,cF.mpr ⟨λz=>hk (aS _ z),n2⟩,λx hx y hy=> ?_⟩
  rcases aQ.mp hy with rfl|hy
  ·exact λz=>hk (bZ _ (z▸hx))
  ·exact n3 x hx y hy
def emp(ow:Array (Option Nat))(j:Nat):Prop:=(ow.getD j (some 0)).isNone=true
theorem aKp{m:Nat}{h:Int}{n c:Nat}(e:pr m h n=at0 m (lp m h c) (cG h / 32^c)):pr m h (n+(cA m (lp m h c)-lp m h c)+1)=at0 m (lp m h (c+1)) (cG h / 32^(c+1)):=by
 have e2:=sT m h n _ _ e _ (aM _);show vB m (pr m h _)=_;rw[e2];unfold vB;rw[if_neg (by show ¬ (cA m (lp m h c)-lp m h c-(cA m (lp m h c)-lp m h c)>0);omega)];show at0 m _ _=at0 m _ _;have z:cG h / 32^(c+1)=cG h / 32^c / 32:=by rw[pD,pG]
 rw[z];rfl
theorem yF{m:Nat}{ow:Array (Option Nat)}(h:Int):∀ (fuel c n k:Nat),pr m h n=at0 m (lp m h c) (cG h / 32^c)->c<=k->k-c<fuel->emp ow (lp m h k)->
  ∃j n',hW.free m ow fuel (lp m h c) (cG h / 32^c)=some j/\n<=n'/\(pr m h n').j=j/\emp ow j/\∀i,n<=i->i<n'->¬ emp ow (pr m h i).j
 |0,c,n,k,e,h1,h2,h3=>by omega
 |fuel+1,c,n,k,e,h1,h2,h3=>by
  have rl:lp m h c<=cA m (lp m h c):=by
   unfold cA
   split<;>omega
  cases hf:(bK (cA m (lp m h c)+1-lp m h c)).find? λx=>(ow.getD (lp m h c+x) (some 0)).isNone with
  |some x=>
   have hx:=List.find?_some hf;have hm:=bP.mp (List.mem_of_find?_eq_some hf);refine⟨lp m h c+x,n+x, ?_,by omega, ?_,hx,λi i1 i2 hc=> ?_⟩
   ·unfold hW.free;rw[hf]
   ·rw[sT m h n _ _ e x (by omega)]
   ·have er:=sT m h n _ _ e (i-n) (by omega);rw[show n+(i-n)=i by omega] at er;rw[er] at hc;obtain⟨l1,l2,el,hl⟩:=List.find?_eq_some_iff_append.mp hf |>.2
    have hmem:(i-n)∈l1:=by
     have hp:(l1++x::l2).Pairwise (·<·):=el▸aCn;have hin:(i-n)∈l1++x::l2:=el▸bP.mpr (by omega)
     rcases bC.mp hin with z|z
     ·exact z
     ·rcases aQ.mp z with z|z
      ·omega
      ·have:=(fH.mp (fO.mp hp).2.1).1 _ z;omega
    have:=hl _ hmem;have hc':(ow.getD (lp m h c+(i-n)) (some 0)).isNone=true:=hc;simp only[hc',jW,aR] at this
  |none=>
   have hno:∀x,x<cA m (lp m h c)+1-lp m h c->¬ emp ow (lp m h c+x):=λx hx hc=>by have:=aGU.mp hf x (bP.mpr hx);exact this hc
   have hlt:c<k:=by
    rcases eD h1 with z|z
    ·exact z
    ·subst z;exact absurd h3 (by have:=hno 0 (by omega);rwa[Nat.add_zero] at this)
   obtain⟨j,n',a1,a2,a3,a4,a5⟩:=yF h fuel (c+1) _ k (aKp e) hlt (by omega) h3;refine⟨j,n', ?_,by omega,a3,a4,λi i1 i2 hc=> ?_⟩
   ·unfold hW.free;rw[hf];have z:cG h / 32^(c+1)=cG h / 32^c / 32:=by rw[pD,pG]
    rw[z] at a1;exact a1
   ·by_cases hi:i<n+(cA m (lp m h c)-lp m h c)+1
    ·have er:=sT m h n _ _ e (i-n) (by omega);rw[show n+(i-n)=i by omega] at er;rw[er] at hc;exact hno (i-n) (by omega) hc
    ·exact a5 i (by omega) i2 hc
end
theorem emp_iff{ow:Array (Option Nat)}{j:Nat}:emp ow j↔ow[j]? =some none:=by
 unfold emp;rw[xQ];cases h:ow[j]? with
 |none=>simp
 |some o=>cases o<;>simp
structure LI(m:Nat)(ow:Array (Option Nat))(dn:List Int):Prop where
 sz:ow.size=m+1
 at_:∀ (x:Nat) (h:Int),dn[x]? =some h->∃j,ow[j]? =some (some x)/\∃n,(pr m h n).j=j/\∀i,i<n->ow[(pr m h i).j]? ≠some none
 lt:∀ (j x:Nat),ow[j]? =some (some x)->x<dn.length
 un:∀ (j j' x:Nat),ow[j]? =some (some x)->ow[j']? =some (some x)->j=j'
theorem LI.nil(m:Nat):LI m (xJ (m+1) none) []:=by
 refine⟨by simp,λx h e=>by simp at e,λj x e=> ?_,λj j' x e _=> ?_⟩
 ·rw[aAj] at e
  split at e<;>simp at e
 ·rw[aAj] at e
  split at e<;>simp at e
theorem LI.free{m:Nat}{ow:Array (Option Nat)}{dn:List Int}(L:LI m ow dn)(hl:dn.length<=m):∃j,j<m+1/\ow[j]? =some none:=by
 refine Classical.byContradiction λhn=> ?_
 have all:∀j,j<m+1->∃x,ow[j]? =some (some x):=λj hj=>by
  have hs:j<ow.size:=by rw[L.sz];exact hj
  cases h:ow[j]? with
  |none=>rw[yB] at h;omega
  |some o=>
   cases o with
   |none=>exact absurd ⟨j,hj,h⟩ hn
   |some x=>exact⟨x,rfl⟩
 have nd:((bK (m+1)).map λj=>((ow[j]?).getD none).getD 0).Nodup:=by rw[mL,dQ];refine List.Pairwise.imp_of_mem ?_ (mL.mp (lA (n:=m+1)));intro a b ha hb hab hc;obtain⟨x,hx⟩:=all a (bP.mp ha);obtain⟨y,hy⟩:=all b (bP.mp hb);rw[hx,hy] at hc;have hc:x=y:=hc;subst hc;exact hab (L.un a b x hx hy)
 have sub:∀y∈(bK (m+1)).map (λj=>((ow[j]?).getD none).getD 0),y∈bK dn.length:=λy hy=>by obtain⟨j,hj,rfl⟩:=aO.mp hy;obtain⟨x,hx⟩:=all j (bP.mp hj);rw[hx];exact bP.mpr (L.lt j x hx)
 have:=nd.length_le_of_subset sub;rw[aB,eM,eM] at this;omega
noncomputable def aKO(m:Nat)(acc:Option (Array (Option Nat)×Nat))(h:Int):Option (Array (Option Nat)×Nat):=do
 let (owner,k) <-acc
 let j <-hW.free m owner (gS m) (cG h%(m+1)) (cG h)
 pure (owner.setIfInBounds j (some k),k+1)
theorem LI.step{m:Nat}(hm:okM m){ow:Array (Option Nat)}{dn:List Int}(L:LI m ow dn)(hl:dn.length<=m)(h:Int):∃ow',aKO m (some (ow,dn.length)) h=some (ow',(dn++[h]).length)/\LI m ow' (dn++[h]):=by
 obtain⟨e,he,h0⟩:=L.free hl;obtain⟨k,n,k1,k2,k3,k4⟩:=aBi hm h he;obtain⟨j,n',f1,f2,f3,f4,f5⟩:=yF (ow:=ow) h (gS m) 0 0 k (by show at0 _ _ _=_;rw[aFe,aGY];rfl) (bS _) (by unfold gS;omega) (by rw[k2];exact emp_iff.mpr h0);rw[aFe,aGY] at f1;have hj:=emp_iff.mp f4
 have hjs:j<ow.size:=by
  rcases lY j ow.size with z|z
  ·exact z
  ·rw[iN z] at hj;cases hj
 have g:∀i,(ow.setIfInBounds j (some dn.length))[i]? =if j=i then some (some dn.length) else ow[i]? :=λi=>by
  rw[xI]
  by_cases z:j=i
  ·rw[if_pos z,if_pos z,if_pos (z▸hjs)]
  ·rw[if_neg z,if_neg z]
 refine⟨ow.setIfInBounds j (some dn.length), ?_,by simpa using L.sz,λx h' hx=> ?_,λi x hi=> ?_,λi i' x hi hi'=> ?_⟩
 ·unfold aKO;have f1':hW.free m ow (gS m) (cG h%(m+1)) (cG h)=some j:=f1;simp only[aCs,aHa,f1',aIk];simp
 ·rcases lY x dn.length with z|z
  ·rw[gA z] at hx;obtain⟨i,i1,n1,i2,i3⟩:=L.at_ x h' hx;refine⟨i, ?_,n1,i2,λa ha=> ?_⟩
   ·rw[g,if_neg (λq=>by rw[q] at hj;rw[hj] at i1;cases i1)];exact i1
   ·rw[g]
    split
    ·simp
    ·exact i3 a ha
  ·rw[fR z] at hx
   have:x=dn.length:=by
    rcases eD z with q|q
    ·rw[dW (by simp;omega)] at hx;cases hx
    ·exact q.symm
   subst this;rw[pF] at hx;have:h=h':=by simpa using hx
   subst this;refine⟨j,by rw[g,if_pos rfl],n',f3,λa ha=> ?_⟩;rw[g]
   split
   ·simp
   ·exact λq=>f5 a (bS _) ha (emp_iff.mpr q)
 ·rw[g] at hi;rw[bB]
  split at hi
  ·have:dn.length=x:=by simpa using hi
   simp;omega
  ·have:=L.lt i x hi;omega
 ·rw[g] at hi hi'
  split at hi
  ·rename_i q1
   split at hi'
   ·rename_i q2;rw[<-q1,<-q2]
   ·have e1:dn.length=x:=by simpa using hi
    have:=L.lt i' x hi';omega
  ·split at hi'
   ·have e1:dn.length=x:=by simpa using hi'
    have:=L.lt i x hi;omega
   ·exact L.un i i' x hi hi'
theorem LI.fold{m:Nat}(hm:okM m):∀ (hl dn:List Int) (ow:Array (Option Nat)),LI m ow dn->(dn++hl).length<=m+1->∃ow',hl.foldl (aKO m) (some (ow,dn.length))=some (ow',(dn++hl).length)/\LI m ow' (dn++hl)
 |[],dn,ow,L,_=>⟨ow,by simp,by simpa using L⟩
 |h::hl,dn,ow,L,hlen=>by obtain⟨ow1,e1,L1⟩:=L.step hm (by simp at hlen;omega) h;obtain⟨ow2,e2,L2'⟩:=LI.fold hm hl (dn++[h]) ow1 L1 (by simpa using hlen);refine⟨ow2, ?_,by simpa using L2'⟩;rw[aKH,e1,e2];simp
theorem aEr{m:Nat}(hm:okM m)(hl:List Int)(h:hl.length<=m+1):∃ow,hW m hl.toArray=some ow/\LI m ow hl:=by
 obtain⟨ow,e,L⟩:=LI.fold hm hl [] _ (LI.nil m) (by simpa using h);refine⟨ow, ?_,by simpa using L⟩;have e':hl.foldl (aKO m) (some (xJ (m+1) none,0))=some (ow,hl.length):=by simpa using e
 unfold hW;rw[List.foldl_toArray];show aFo (·.1) (hl.foldl (aKO m) (some (xJ (m+1) none,0)))=some ow;rw[e'];rfl
noncomputable def gT(hs:List Key->Int)(r:iR):Int×BO:=(hs r.2.1,Value.ref r.2.2)
noncomputable def oJ(T:List iR)(p:Nat×Nat):iR:=(p.1,(T.getD p.2 (0,[],0)).2)
theorem aDb(hs:List Key->Int)(T:List iR):∀ (lv:List (Nat×Nat)),(∀p∈lv,p.2<T.length)->(lv.map (·.2)).filterMap (λi=>(T.map (gT hs))[i]?)=(lv.map (oJ T)).map (gT hs)
 |[],_=>rfl
 |p::lv,h=>by have hp:=h p aH;rw[aX,lW,bF,cZ hp];dsimp only[Option.map_some];rw[aDb hs T lv λq hq=>h q (aI _ hq),aX,aX];congr 1;unfold gT oJ;simp[bR,hp]
section
variable {hs:List Key->Int}{t:BW}{es:Array (Int×BO)}{T:List iR}
theorem aJw{m:Nat}(hm:okM m)(hl:T.length<=m+1)(kn:(T.map (·.2.1)).Nodup)(fg mv:Nat)(ld pn:Bool):
  ∃ (t':BW) (ord:Array Nat) (T':List iR),aIo m fg mv ld pn ((T.map (gT hs)).toArray.map (·.1))=some (t',ord)/\t'.mask=m/\t'.moves=mv/\t'.led=ld/\t'.plain=pn/\
   TabT hs t' (ord.filterMap ((T.map (gT hs)).toArray[·]?)) T'/\T'.length=T.length/\(T'.map (·.2)).Perm (T.map (·.2)):=by
 have eh:(T.map (gT hs)).toArray.map (·.1)=(T.map λr=>hs r.2.1).toArray:=by rw[List.map_toArray,aV];rfl
 obtain⟨ow,e,L⟩:=aEr hm (T.map λr=>hs r.2.1) (by rw[aB];exact hl);obtain⟨lv,hlv⟩:∃lv,lv=(bK (m+1)).filterMap λj=>(ow.getD j none).map (j,·):=⟨_,rfl⟩
 have gd:∀j,ow.getD j none=(ow[j]?).getD none:=λj=>xQ ..
 have memlv:∀p:Nat×Nat,p∈lv↔ow[p.1]? =some (some p.2):=λp=>by
  rw[hlv,sL]
  constructor
  ·rintro⟨j,hj,q⟩;rw[gd] at q;cases h:ow[j]? with
   |none=>rw[h] at q;simp at q
   |some o=>
    rw[h] at q;cases o with
    |none=>simp at q
    |some x=>
     have:(j,x)=p:=by simpa using q
     rw[<-this];exact h
  ·intro h
   have hs':p.1<ow.size:=by
    rcases lY p.1 ow.size with z|z
    ·exact z
    ·rw[iN z] at h;cases h
   refine⟨p.1,bP.mpr (by rw[<-L.sz];exact hs'), ?_⟩;rw[gd,h];rfl
 have lt2:∀p∈lv,p.2<T.length:=λp hp=>by
  have:=L.lt p.1 p.2 ((memlv p).mp hp)
  rwa[aB] at this
 have rs:(lv.map (·.1)).Pairwise (·<·):=by rw[hlv,dQ];refine List.Pairwise.filterMap _ ?_ (aCn (n:=m+1));intro a b hab x hx y hy;obtain⟨u,_,e1⟩:=gQ.mp hx;obtain⟨v,_,e2⟩:=gQ.mp hy;rw[<-e1,<-e2];exact hab
 have nd2:(lv.map (·.2)).Nodup:=by rw[mL,dQ];have:=dQ.mp rs;refine List.Pairwise.imp_of_mem ?_ this;intro a b ha hb hab hc;have h1:=(memlv a).mp ha;have h2:=(memlv b).mp hb;rw[hc] at h1;have:=L.un a.1 b.1 b.2 h1 h2;omega
 have perm:(lv.map (·.2)).Perm (bK T.length):=by
  refine(zI nd2 lA).mpr λx=>⟨λhx=> ?_,λhx=> ?_⟩
  ·obtain⟨p,hp,rfl⟩:=aO.mp hx;exact bP.mpr (lt2 p hp)
  ·have hx':=bP.mp hx;obtain⟨j,hj,_⟩:=L.at_ x (hs (T[x]).2.1) (by rw[bF,cZ hx'];rfl);exact aO.mpr ⟨(j,x),(memlv (j,x)).mpr hj,rfl⟩
 have len:(lv.map (oJ T)).length=T.length:=by rw[aB,<-aB (f:=(·.2)) (as:=lv),perm.length_eq,eM]
 have fst:(lv.map (oJ T)).map (·.1)=lv.map (·.1):=by rw[aV];rfl
 have snd:((lv.map (oJ T)).map (·.2)).Perm (T.map (·.2)):=by
  have e1:(lv.map (oJ T)).map (·.2)=(lv.map (·.2)).map λi=>(T.getD i (0,[],0)).2:=by rw[aV,aV];rfl
  rw[e1];refine(perm.map _).trans (List.Perm.of_eq ?_);apply oK
  ·simp
  ·intro i h1 h2;have hi:i<T.length:=by simpa using h2
   simp[bR,hi]
 refine⟨{mask:=m,place:=(lv.map (·.1)).toArray,dummies:= #[],finger:=fg,led:=ld,moves:=mv,plain:=pn},(lv.map (·.2)).toArray,lv.map (oJ T), ?_,rfl,rfl,rfl,rfl,⟨hm, ?_, ?_,rfl, ?_,λr hr=> ?_,λr hr=> ?_, ?_⟩,len,snd⟩
 ·unfold aIo;rw[eh,e];simp only[aCs,aHa,aIk];rw[<-hlv]
 ·show(lv.map (·.1)).toArray=_;rw[fst]
 ·have:=aDb hs T lv lt2;show Array.filterMap _ (lv.map (·.2)).toArray=((lv.map (oJ T)).map (gT hs)).toArray;rw[<-this];simp
 ·rw[fst];exact rs
 ·obtain⟨p,hp,rfl⟩:=aO.mp hr;have h:=(memlv p).mp hp
  have hs':p.1<ow.size:=by
   rcases lY p.1 ow.size with z|z
   ·exact z
   ·rw[iN z] at h;cases h
  rw[L.sz] at hs';show p.1<=m;omega
 ·obtain⟨p,hp,rfl⟩:=aO.mp hr;have h:=(memlv p).mp hp;have hi:=lt2 p hp;have ek:(oJ T p).2.1=(T[p.2]).2.1:=by unfold oJ;simp[bR,hi]
  obtain⟨j,hj,n,n1,n2⟩:=L.at_ p.2 (hs (T[p.2]).2.1) (by rw[bF,cZ hi];rfl);have:j=p.1:=L.un j p.1 p.2 hj h;subst this;rw[ek];refine⟨n,n1,λi hin=> ?_⟩;have occ:=n2 i hin;show(pr m (hs (T[p.2]).2.1) i).j∈_;rw[fst];have hq:=(aNM (m:=m) (hs (T[p.2]).2.1) i).1;have hb:(pr m (hs (T[p.2]).2.1) i).j<ow.size:=by rw[L.sz];omega
  cases ho:ow[(pr m (hs (T[p.2]).2.1) i).j]? with
  |none=>rw[yB] at ho;omega
  |some o=>
   cases o with
   |none=>exact absurd ho occ
   |some x=>exact aO.mpr ⟨(_,x),(memlv (_,x)).mpr ho,rfl⟩
 ·have e1:(lv.map (oJ T)).map (·.2.1)=((lv.map (oJ T)).map (·.2)).map (·.1):=by simp only[aV];rfl
  have e2:T.map (·.2.1)=(T.map (·.2)).map (·.1):=by rw[aV];rfl
  rw[e1];rw[e2] at kn;exact(snd.map _).nodup_iff.mpr kn
end
section
variable {prog:AG}{w:AL}{A:BR}{E:BO->BP->Prop}{s:BP}
noncomputable abbrev tK(prog:AG)(w:AL):=Ar (eY prog w)
theorem zL{d:Nat}{v:BO}(h:Az v=true):ofAClassStatement d v=pure false:=by cases v<;>first|rfl|(cases d<;>rfl)|(simp[Az] at h)
theorem aHS{x:BQ}{k:List Key}{Q:Bool->BP->Prop}(hx:(tK prog w).is s.heap k x)(h:Q false s):AH (AE prog w) A (ofAClassStatement 8 (.ref x)) Q E s:=by
 have hk:IsTupleKey (eY prog w) s.heap k x:=hx;have hT:=hk.typeIs;obtain⟨o,items,n,ho,hc,hd,hi⟩:=hk;unfold ofAClassStatement;refine AA (wpAny_typeOf hT ?_);dsimp only;refine AA (AB ?_);simp only[jW,aR,if_false];refine AA (AX ho hd ?_);dsimp only;refine AA ?_;rw[<-aFp];refine wpAny_forIn_list _ (λrest r s'=>r.1=none/\s'=s/\∀v∈rest,Az v=true) _ ?_ ?_ _ _ ⟨rfl,rfl,hi.byValue⟩
 ·rintro v rest r s' ⟨hr,rfl,hall⟩;rw[zL (hall v aH)];refine AA (AB ?_);simp only[aR,if_false];exact AB ⟨rfl,rfl,λu hu'=>hall u (aI _ hu')⟩
 ·rintro⟨r1,r2⟩ s' ⟨hr,rfl,_⟩;simp only at hr;subst hr;exact AB h
theorem aNV{x:BQ}{k:List Key}{stored:List BO}{Q:Bool->BP->Prop}(hx:(tK prog w).is s.heap k x)(hs:∀v∈stored,∃k' b,v=.ref b/\(tK prog w).is s.heap k' b)(h:Q false s):AH (AE prog w) A (searchCouldBeSeen (.ref x) stored) Q E s:=by
 unfold searchCouldBeSeen;refine AA ?_;refine wpAny_forIn_list _ (λrest r s'=>r.1=none/\s'=s/\∀v∈rest,∃k' b,v=.ref b/\(tK prog w).is s.heap k' b) _ ?_ ?_ _ _ ⟨rfl,rfl,hs⟩
 ·rintro v rest r s' ⟨hr,rfl,hall⟩;obtain⟨k',b,rfl,hb⟩:=hall v aH;have nx:∀u∈rest,∃k' b,u=.ref b/\(tK prog w).is s'.heap k' b:=λu hu=>hall u (aI _ hu)
  dsimp only
  by_cases hxb:(x==b)=true
  ·rw[hxb];simp only[aOR,if_true];exact AB ⟨rfl,rfl,nx⟩
  ·have hxb:(x==b)=false:=by simpa using hxb
   rw[hxb];simp only[Az,qC,Bool.or_self,aR,if_false];refine AA ((tK prog w).quiet hx ?_);simp only[jW,aR,if_false];refine AA ((tK prog w).quiet hb ?_);simp only[jW,aR,if_false];refine AA (aHS hx ?_);simp only[aR,if_false];refine AA (aHS hb ?_);simp only[aR,if_false];exact AB ⟨rfl,rfl,nx⟩
 ·rintro⟨r1,r2⟩ s' ⟨hr,rfl,_⟩;simp only at hr;subst hr;exact AB h
theorem aAA{a x:BQ}{o:BZ}{kx:List Key}{T:List iR}{t:BW}{es:Array (Int×BO)}{ep:Nat}{Q:SetFound->BP->Prop}(hu:A.units<AQ)(ho:s.heap.get? a=some o)(hd:o.data=.set es ep t)(X:TabT (tK prog w).hash t es T)(fit:t.fits es.size=true)
  (hx:(tK prog w).is s.heap kx x) (hk:∀r∈T,(tK prog w).is s.heap r.2.1 r.2.2) {e:Nat} (he:(pr t.mask ((tK prog w).hash kx) e).j∉T.map (·.1)) (hl:∀i,i<e->(pr t.mask ((tK prog w).hash kx) i).j∈T.map (·.1)) (h10:e<10*gS t.mask)
  (q1:kx∈T.map (·.2.1)->Q (.there none) s) (q2:kx∉T.map (·.2.1)->Q (.free (pr t.mask ((tK prog w).hash kx) e).j false) s):∀ (fuel n:Nat) (stand:Option SetTable.Probe),stand.getD (t.probeStart ((tK prog w).hash kx))=pr t.mask ((tK prog w).hash kx) n->n<=e->e-n<fuel->(∀r∈T,r.2.1=kx->∃i,n<=i/\i<e/\(pr t.mask ((tK prog w).hash kx) i).j=r.1)->
   AH (AE prog w) A (setSearchFrom a (.ref x) ((tK prog w).hash kx) true fuel stand) Q E s
 |0,n,stand,e1,h1,h2,h3=>by omega
 |fuel+1,n,stand,e1,h1,h2,h3=>by
  unfold setSearchFrom;refine AA (AW ho hd fit ?_);dsimp only
  have gw:t.gaveWay=false:=by
   unfold SetTable.gaveWay
   rcases X.om with q|q|q|q|q<;>rw[q]<;>rfl
  rw[gw];simp only[aR,if_false]
  have hAt:∀B r C,T=B++r::C->es[B.length]? =some ((tK prog w).hash r.2.1,Value.ref r.2.2):=λB r C q=>by rw[X.en,q];simp
  rw[e1];generalize hf:t.probe _ ((tK prog w).hash kx) (pr t.mask ((tK prog w).hash kx) n)=met;obtain⟨F,hF,hf⟩:∃F:Nat->Int,(∀i,F i=((es[i]?).map (·.1)).getD 0)/\t.probe F ((tK prog w).hash kx) (pr t.mask ((tK prog w).hash kx) n)=met:=⟨_,λi=>rfl,hf⟩;unfold iD at hf
  obtain ⟨k,k1,k2,k3,k4⟩:=aCW X (hashAt:=F) (fun B r C q=>by
   have:=hAt B r C q;rw[hF,this]
   rfl) ((tK prog w).hash kx) (10*gS t.mask) n e h1 (by omega) he
  rcases k4 with⟨hm,hg⟩|⟨B,r,C,eT,hj,hh,hg⟩
  ·rw[hg] at hf;subst hf;dsimp only
   have ke:k=e:=by
    rcases eD k2 with z|z
    ·exact absurd (hl k z) hm
    ·exact z
   subst ke;refine AB (q2 λhc=> ?_);obtain⟨r,hr,er⟩:=aO.mp hc;obtain⟨i,i1,i2,i3⟩:=h3 r hr er;exact(k3 i i1 i2).2 r hr i3.symm (by rw[er])
  ·rw[hg] at hf;subst hf;dsimp only;have hr:r∈T:=by rw[eT];simp
   have hei:=hAt B r C eT;have hsl:=X.slot_live eT;rw[hj] at hsl;have sm:t.sameMemory t.moves t.mask=some true:=by unfold SetTable.sameMemory;simp
   have hke:k<e:=by
    rcases eD k2 with z|z
    ·exact z
    ·subst z;exact absurd (hj▸cN hr) he
   cases hled:t.led with
   |true=>
    simp only[jW,aR,if_false];rw[hei];dsimp only;refine AA (AV ((tK prog w).eqBool hu (hk r hr) hx ?_));refine AA (AW ho hd fit ?_);dsimp only
    by_cases hkx:r.2.1=kx
    ·rw[decide_eq_true hkx];simp only[aBH,if_true];exact AB (q1 (hkx▸cN hr))
    ·rw[decide_eq_false hkx];simp only[qD,aR,if_false];rw[sm];dsimp only;rw[if_pos rfl,hsl];dsimp only;rw[hei];dsimp only;refine AA (wpAny_isSame_ref_self ?_);refine AA (AB ?_);simp only[if_true];refine aAA hu ho hd X fit hx hk he hl h10 q1 q2 fuel (k+1) (some _) rfl (by omega) (by omega) λr' hr' e'=> ?_
     obtain⟨i,i1,i2,i3⟩:=h3 r' hr' e';refine⟨i, ?_,i2,i3⟩
     rcases lY i k with z|z
     ·exact absurd (by rw[e']) ((k3 i i1 z).2 r' hr' i3.symm)
     ·rcases eD z with z|z
      ·exact z
      ·exfalso;subst z;have:r'=r:=X.same_row hr' hr (i3.symm.trans hj.symm);rw[this] at e';exact hkx e'
   |false=>
    simp only[qE,if_true];refine AA (aNV hx (λv hv=> ?_) ?_)
    ·obtain⟨p,hp,rfl⟩:=aO.mp hv
     have hp':p∈es.toList:=by have:=pW.mp hp;exact pW.mpr (Array.mem_filter.mp this).1
     rw[X.en] at hp';obtain⟨r2,h2',rfl⟩:=aO.mp (by simpa using hp':p∈T.map λr=>((tK prog w).hash r.2.1,Value.ref r.2.2));exact⟨r2.2.1,r2.2.2,rfl,hk r2 h2'⟩
    simp only[aR,if_false];rw[hei];dsimp only;refine AA (AV ((tK prog w).eqBool hu (hk r hr) hx ?_));refine AA (AW ho hd fit ?_);dsimp only
    by_cases hkx:r.2.1=kx
    ·rw[decide_eq_true hkx];simp only[aBH,if_true];exact AB (q1 (hkx▸cN hr))
    ·rw[decide_eq_false hkx];simp only[qD,aR,if_false];rw[sm];dsimp only;rw[if_pos rfl,hsl];dsimp only;rw[hei];dsimp only;refine AA (wpAny_isSame_ref_self ?_);refine AA (AB ?_);simp only[if_true];refine aAA hu ho hd X fit hx hk he hl h10 q1 q2 fuel (k+1) (some _) rfl (by omega) (by omega) λr' hr' e'=> ?_
     obtain⟨i,i1,i2,i3⟩:=h3 r' hr' e';refine⟨i, ?_,i2,i3⟩
     rcases lY i k with z|z
     ·exact absurd (by rw[e']) ((k3 i i1 z).2 r' hr' i3.symm)
     ·rcases eD z with z|z
      ·exact z
      ·exfalso;subst z;have:r'=r:=X.same_row hr' hr (i3.symm.trans hj.symm);rw[this] at e';exact hkx e'
noncomputable def aNE:BO->Bool
 |.none | .bool _ | .int .. =>true
 |.float bits _=>(Float64.hash? bits).isSome
 |_=>false
theorem aBV(d:Nat){v:BO}(h:Az v=true):hashByValue d v=pure (aNE v):=by cases v<;>first|rfl|(cases d<;>rfl)|(simp[Az] at h)
theorem aEM{ks:List Key}{vs:List BO}(h:ItemsAre (eY prog w) ks vs):(∀k∈ks,∃i,k=Sum.inl i)->∀v∈vs,∃i t,v=.int i t:=by
 induction h with
 |nil=>intro _ v hv;simp at hv
 |@cons k v ks vs h1 _ ih=>
  intro hk u hu
  rcases aQ.mp hu with rfl|hu
  ·obtain⟨i,rfl⟩:=hk k aH
   rcases gM (show vS (Sum.inl i) u=true from h1) with⟨i',t,e,rfl⟩|⟨x,t,e,_⟩
   ·exact⟨i',t,rfl⟩
   ·cases e
  ·exact ih (λz hz=>hk z (aI _ hz)) u hu
theorem hbvT{x:BQ}{k:List Key}{Q:Bool->BP->Prop}(hx:(tK prog w).is s.heap k x)(h:∀b,((∀z∈k,∃i,z=Sum.inl i)->b=true)->Q b s):AH (AE prog w) A (hashByValue 8 (.ref x)) Q E s:=by
 have hk:IsTupleKey (eY prog w) s.heap k x:=hx;have hT:=hk.typeIs;obtain⟨o,items,n,ho,hc,hd,hi⟩:=hk;unfold hashByValue;refine AA (wpAny_specialOf hT F.slot_tuple_hash.lookup ?_);dsimp only;refine AA (AX ho hd ?_);dsimp only[Option.getD];refine AA ?_;rw[<-aFp];have h0:(∀z∈k,∃i,z=Sum.inl i)->∀v∈items.toList,∃i t,v=Value.int i t:=aEM hi;refine wpAny_forIn_list _ (λrest r s'=>s'=s/\r.1=none/\(∀v∈rest,Az v=true)/\((∀z∈k,∃i,z=Sum.inl i)->∀v∈rest,∃i t,v=Value.int i t)) _ ?_ ?_ _ _ ⟨rfl,rfl,hi.byValue,h0⟩
 ·rintro v rest r s' ⟨rfl,hr,hall,hint⟩;have hb:=aBV 7 (hall v aH)
  have hb2:(∀z∈k,∃i,z=Sum.inl i)->aNE v=true:=λz=>by obtain⟨i,t,rfl⟩:=hint z v aH;rfl
  generalize aNE v=b at hb hb2;rw[hb];refine AA (AB ?_);cases b with
  |true=>simp only[jW,aR,if_false];exact AB ⟨rfl,rfl,λu hu'=>hall u (aI _ hu'),λz u hu'=>hint z u (aI _ hu')⟩
  |false=>simp only[qE,if_true];exact AB (AB (h _ hb2))
 ·rintro⟨r1,r2⟩ s' ⟨rfl,hr,_⟩;simp only at hr;subst hr;exact AB (h _ λ_=>rfl)
def SzT(m n:Nat):Prop:=(m=7->n<=4)/\(m=31->n<=18)/\m≠63/\m≠255
theorem SzT.fit{m n:Nat}(z:SzT m n)(om:okM m)(h:n<=72):n<=m:=by
 obtain⟨s1,s2,s3,s4⟩:=z
 rcases om with q|q|q|q|q
 ·have:=s1 q;omega
 ·have:=s2 q;omega
 ·exact absurd q s3
 ·omega
 ·exact absurd q s4
def SetT(prog:AG)(w:AL)(ip:Bool)(o:BZ)(T:List iR):Prop:=∃ (es:Array (Int×BO)) (ep:Nat) (t:BW),o={cls:=.type "set",dict:=none,data:=.set es ep t}/\TabT (tK prog w).hash t es T/\SzT t.mask T.length/\t.led= !byT w/\(ip=true->t.plain=true)
theorem TabT.size{hs:List Key->Int}{t:BW}{es:Array (Int×BO)}{T:List iR}(X:TabT hs t es T):es.size=T.length:=by rw[X.en];simp
theorem TabT.fill{hs:List Key->Int}{t:BW}{es:Array (Int×BO)}{T:List iR}(X:TabT hs t es T):t.fill=T.length:=by unfold SetTable.fill;rw[X.pl,X.du];simp
theorem TabT.fit{hs:List Key->Int}{t:BW}{es:Array (Int×BO)}{T:List iR}(X:TabT hs t es T)(hl:T.length<=t.mask):t.fits es.size=true:=by
 have e1:=X.size;have e2:=X.fill;have e3:t.place.size=T.length:=by rw[X.pl];simp
 unfold SetTable.fits;simp only[bM,beq_iff_eq,decide_eq_true_eq];exact⟨by rw[e3,e1],by rw[e2];exact hl⟩
theorem aHw{a:BQ}{o:BZ}{es:Array (Int×BO)}{ep:Nat}{t:BW}{T:List iR}{Q:Unit->BP->Prop}(ho:s.heap.get? a=some o)(ho':o={cls:=.type "set",dict:=none,data:=.set es ep t})(X:TabT (tK prog w).hash t es T){n m m':Nat}(hl:T.length=n)(hm:t.mask=m)(nm:n<=m)(om:okM m')(nm':n<=m')(n9:n<=1000)(m9:m'<=1000)(sa:SetTable.sizeAbove (oR n)=m'+1)
  (h:∀ (es':Array (Int×BO)) (ep':Nat) (t':BW) (T':List iR) (h':BS),Heap.SameBut a s.heap h'->h'.get? a=some {cls:=.type "set",dict:=none,data:=.set es' ep' t'}->TabT (tK prog w).hash t' es' T'->t'.mask=m'->t'.led=t.led->t'.plain=t.plain->T'.length=n->(T'.map (·.2)).Perm (T.map (·.2))->Q () {s with heap:=h'}):
  AH (AE prog w) A (setRelay a (oR n)) Q E s:=by
 subst ho';have fit:=X.fit (by omega);obtain⟨t',ord,T',e1,m1,_,ld1,pn1,X',l',p'⟩:=aJw (hs:=(tK prog w).hash) (T:=T) (m:=m') om (by omega) X.kn t.finger (t.movedTo m') t.led t.plain;have ee:es=(T.map (gT (tK prog w).hash)).toArray:=X.en;unfold setRelay;refine AA (AW ho rfl fit ?_);dsimp only;rw[sa,Ac];rw[if_neg (show ¬ (m'+1>16777216) by omega)];refine AA ?_
 have rl:t.relaid (es.map (·.1)) (oR n)=some (t',ord):=by unfold SetTable.relaid;rw[sa,ee];exact e1
 rw[rl,ee]
 have sz:(ord.filterMap ((T.map (gT (tK prog w).hash)).toArray[·]?)).size=(T.map (gT (tK prog w).hash)).toArray.size:=by rw[X'.size,l'];simp
 show AH _ _ (if((ord.filterMap ((T.map (gT (tK prog w).hash)).toArray[·]?)).size !=(T.map (gT (tK prog w).hash)).toArray.size)=true then _ else _) _ _ _;rw[sz];simp only[bne_self_eq_false,aR,if_false];refine AB ?_;dsimp only;refine wpAny_storeSet_of ho rfl ?_ (by rw[sz,Ac];simp;omega);have g1:=dX (Obj.putSet (ord.filterMap ((T.map (gT (tK prog w).hash)).toArray[·]?)) t') ho (by rw[putSet_of _ _ rfl];rfl);rw[putSet_of _ _ rfl] at g1;exact h _ _ _ T' _ (Heap.SameBut.update s.heap a _) g1 X' m1 ld1 pn1 (by omega) p'
theorem aOz{a x:BQ}{o:BZ}{kx:List Key}{T:List iR}{ip:Bool}{Q:Bool->BP->Prop}(hip:ip=true->∀z∈kx,∃i,z=Sum.inl i)(hu:A.units<AQ)(hl:T.length<=72)(ho:s.heap.get? a=some o)(S:SetT prog w ip o T)(hk:∀r∈T,(tK prog w).is s.heap r.2.1 r.2.2)(hx:(tK prog w).is s.heap kx x)
  (h:∀ (b:Bool) (h':BS) (o':BZ) (tk:Nat) (T':List iR),Heap.SameBut a s.heap h'->h'.get? a=some o'->SetT prog w ip o' T'->(∀p,p∈T'.map (·.2)->p=(kx,x)\/p∈T.map (·.2))->(∀k,k∈T'.map (·.2.1)↔k=kx\/k∈T.map (·.2.1))->Q b {s with heap:=h',toks:=tk}):AH (AE prog w) A (setAddHashed a (.ref x) ((tK prog w).hash kx)) Q E s:=by
 have S0:=S;obtain⟨es,ep,t,rfl,X,h7,hled,hpl0⟩:=S
 have lm:T.length<=t.mask:=by
  obtain⟨s1,s2,s3,s4⟩:=h7
  rcases X.om with q|q|q|q|q
  ·have:=s1 q;omega
  ·have:=s2 q;omega
  ·exact absurd q s3
  ·omega
  ·exact absurd q s4
 have fit:=X.fit lm;generalize htk:s.toks=tk;unfold setAddHashed setAddHashedIn;have es0:s={s with toks:=tk}:=by rw[<-htk]
 rw[es0];refine AV (AA (AW (s:={s with toks:=tk}) ho rfl fit ?_));dsimp only;have bs:byScan (.ref x) es=false:=rfl;rw[bs];simp only[aR,if_false];obtain⟨e,e1,e2,e3⟩:=X.room lm ((tK prog w).hash kx);unfold setSearch;refine AA (aAA (s:={s with toks:=tk}) hu ho rfl X fit hx hk e2 e3 e1 (λhm=> ?_) (λhm=> ?_) 100000 0 none rfl (bS _) ?_ λr hr er=> ?_)
 ·dsimp only;refine AB (h false s.heap _ _ T (Heap.SameBut.refl a s.heap) ho S0 (λp hp=>.inr hp) λk=>⟨λz=>.inr z,λz=> ?_⟩)
  rcases z with rfl|z
  ·exact hm
  ·exact z
 ·dsimp only;refine AA (AW (s:={s with toks:=tk}) ho rfl fit ?_);dsimp only;generalize hj:(pr t.mask ((tK prog w).hash kx) e).j=j;rw[hj] at e2;have jm:j<=t.mask:=hj▸(aNM (m:=t.mask) ((tK prog w).hash kx) e).1
  rcases hp:t.put j with⟨t1,p⟩
  have fin:∀b:Bool,(ip=true→b=true)→AH (AE prog w) A (do
    storeSet a (iU es p ((tK prog w).hash kx,.ref x)) {t1 with plain:=b}
    if(!false&&sM {t1 with plain:=b})=true then setRelay a (oR (es.size+1))
    return true) Q E {s with toks:=tk}:=λb hbt=>by
   obtain⟨B,C,eT,X2⟩:=X.put (a:=x) e2 jm hm ⟨e,hj,e3⟩ b;rw[hp] at X2;generalize hT2:B++(j,kx,x)::C=T2 at X2
   have mk1:({t1 with plain:=b}:BW).mask=t.mask:=by
    have:t1=(t.put j).1:=by rw[hp]
    rw[this];rfl
   have ld2:({t1 with plain:=b}:BW).led= !byT w:=by
    have:t1=(t.put j).1:=by rw[hp]
    rw[this];exact hled
   have pn2:ip=true->({t1 with plain:=b}:BW).plain=true:=hbt;generalize ({t1 with plain:=b}:BW)=t2 at X2 mk1 ld2 pn2 ⊢;dsimp only at X2;generalize hes2:iU es p ((tK prog w).hash kx,Value.ref x)=es2 at X2 ⊢
   have l2:T2.length=T.length+1:=by rw[<-hT2,eT];simp;omega
   have rw1:∀p,p∈T2.map (·.2)->p=(kx,x)\/p∈T.map (·.2):=λp hp=>by
    rw[<-hT2] at hp;rw[eT];simp only[aP,aX,bC,aQ] at hp ⊢
    rcases hp with z|z|z
    ·exact .inr (.inl z)
    ·exact .inl z
    ·exact .inr (.inr z)
   have kw1:∀k,k∈T2.map (·.2.1)↔k=kx\/k∈T.map (·.2.1):=λk=>by
    rw[<-hT2,eT];simp only[aP,aX,bC,aQ]
    constructor
    ·rintro(z|z|z)
     ·exact .inr (.inl z)
     ·exact .inl z
     ·exact .inr (.inr z)
    ·rintro(z|z|z)
     ·exact .inr (.inl z)
     ·exact .inl z
     ·exact .inr (.inr z)
   refine AA (wpAny_storeSet_of (s:={s with toks:=tk}) ho rfl ?_ (by rw[X2.size,Ac];omega));have g1:=dX (Obj.putSet es2 t2) ho (by rw[putSet_of _ _ rfl];rfl);rw[putSet_of _ _ rfl] at g1
   have tf:sM t2=decide (T2.length*5>=t.mask*3):=by unfold sM;rw[X2.fill,mk1]
   rw[tf]
   by_cases hc:T2.length*5>=t.mask*3
   ·rw[decide_eq_true hc];simp only[qE,aBH,if_true];obtain⟨s1,s2,s3,s4⟩:=h7
    rcases X.om with q|q|q|q|q
    ·have:=s1 q
     have ln:T2.length=5:=by rw[q] at hc;omega
     have sn:es.size+1=5:=by rw[X.size];omega
     rw[sn];refine AA (aHw (n:=5) (m:=7) (m':=31) (s:={s with heap:=s.heap.update a (Obj.putSet es2 t2),toks:=tk}) g1 rfl X2 ln (by rw[mk1,q]) (by decide) (.inr (.inl rfl)) (by decide) (by decide) (by decide) (by decide+kernel) λes' ep' t' T' h' sb g2 X' m' ld' pn' l' pm=>AB ?_);refine h true h' _ tk T' ((Heap.SameBut.update s.heap a _).trans sb) g2 ⟨es',ep',t',rfl,X',⟨λz=>by omega,λz=>by omega,by omega,by omega⟩,ld'.trans ld2,λz=>pn'.trans (pn2 z)⟩ (λp hp=>rw1 p (pm.mem_iff.mp hp)) λk=> ?_
     have pk:(T'.map (·.2.1)).Perm (T2.map (·.2.1)):=by have:=pm.map (·.1);rw[aV,aV] at this;exact this
     rw[pk.mem_iff];exact kw1 k
    ·have:=s2 q
     have ln:T2.length=19:=by rw[q] at hc;omega
     have sn:es.size+1=19:=by rw[X.size];omega
     rw[sn];refine AA (aHw (n:=19) (m:=31) (m':=127) (s:={s with heap:=s.heap.update a (Obj.putSet es2 t2),toks:=tk}) g1 rfl X2 ln (by rw[mk1,q]) (by decide) (.inr (.inr (.inr (.inl rfl)))) (by decide) (by decide) (by decide) (by decide+kernel) λes' ep' t' T' h' sb g2 X' m' ld' pn' l' pm=>AB ?_);refine h true h' _ tk T' ((Heap.SameBut.update s.heap a _).trans sb) g2 ⟨es',ep',t',rfl,X',⟨λz=>by omega,λz=>by omega,by omega,by omega⟩,ld'.trans ld2,λz=>pn'.trans (pn2 z)⟩ (λp hp=>rw1 p (pm.mem_iff.mp hp)) λk=> ?_
     have pk:(T'.map (·.2.1)).Perm (T2.map (·.2.1)):=by have:=pm.map (·.1);rw[aV,aV] at this;exact this
     rw[pk.mem_iff];exact kw1 k
    ·exact absurd q s3
    ·rw[q] at hc;omega
    ·exact absurd q s4
   ·rw[decide_eq_false hc];simp only[qD,aR,if_false];refine AA (AB (AB ?_));refine h true _ _ tk T2 (Heap.SameBut.update s.heap a _) g1 ⟨es2,_,t2,rfl,X2,⟨λz=>by rw[mk1] at z;rw[z] at hc;omega,λz=>by rw[mk1] at z;rw[z] at hc;omega,by rw[mk1];exact h7.2.2.1,by rw[mk1];exact h7.2.2.2⟩,ld2,pn2⟩ rw1 kw1
  cases hpl:t1.plain with
  |true=>
   simp only[hpl,if_true];refine AA (hbvT (s:={s with toks:=tk}) hx λb hb=> ?_);cases b with
   |true=>
    simp only[if_true];have:=fin true λ_=>rfl
    rw[show({t1 with plain:=true}:BW)=t1 by rw[<-hpl]] at this;exact this
   |false=>simp only[aR,if_false];exact fin false λz=>hb (hip z)
  |false=>
   simp only[hpl,aR,if_false];refine AA (AB ?_);simp only[if_true]
   have:=fin false λz=>by
    have e:t1.plain=t.plain:=by
     have:t1=(t.put j).1:=by rw[hp]
     rw[this];rfl
    rw[e,hpl0 z] at hpl;cases hpl
   rw[show({t1 with plain:=false}:BW)=t1 by rw[<-hpl]] at this;exact this
 ·have:gS t.mask<=1000:=by rcases X.om with q|q|q|q|q<;>rw[q]<;>decide
  omega
 ·obtain⟨n,n1,n2⟩:=X.ahead hr (e:=e) (by rw[er];exact e2);rw[er] at n2;exact⟨n,bS _,n1,n2⟩
theorem addT{a x:BQ}{o:BZ}{kx:List Key}{T:List iR}{ip:Bool}{Q:Bool->BP->Prop}(hip:ip=true->∀z∈kx,∃i,z=Sum.inl i)(hu:A.units<AQ)(hl:T.length<=72)(ho:s.heap.get? a=some o)(S:SetT prog w ip o T)(hk:∀r∈T,(tK prog w).is s.heap r.2.1 r.2.2)(hx:(tK prog w).is s.heap kx x)
  (h:∀ (b:Bool) (h':BS) (o':BZ) (tk:Nat) (T':List iR),Heap.SameBut a s.heap h'->h'.get? a=some o'->SetT prog w ip o' T'->(∀p,p∈T'.map (·.2)->p=(kx,x)\/p∈T.map (·.2))->(∀k,k∈T'.map (·.2.1)↔k=kx\/k∈T.map (·.2.1))->Q b {s with heap:=h',toks:=tk}):AH (AE prog w) A (setAdd a (.ref x)) Q E s:=by
 unfold setAdd;refine AV (AA ((tK prog w).pyHash hu hx ?_));exact aOz (s:={s with toks:=s.toks+(tK prog w).draws kx}) hip hu hl ho S hk hx h
end
theorem aJl{T:List iR}{vs:List (List Key)}{n:Nat}(nd:(T.map (·.2.1)).Nodup)(h:∀k,k∈T.map (·.2.1)↔k∈vs)(hn:vs.length<=n):T.length<=n:=by
 have:=nd.length_le_of_subset λk hk=>(h k).mp hk
 rw[aB] at this;omega
section
variable {prog:AG}{w:AL}{A:BR}{s:BP}
theorem vU{h h':BS}{x:BQ}{k:List Key}(hx:(tK prog w).is h k x)(kp:∀o,h.get? x=some o->h'.get? x=some o):(tK prog w).is h' k x:=by obtain⟨o,items,n,ho,hc,hd,hi⟩:=(show IsTupleKey (eY prog w) h k x from hx);exact(show IsTupleKey (eY prog w) h' k x from⟨o,items,n,kp _ ho,hc,hd,hi⟩)
theorem SetT.nd{ip:Bool}{o:BZ}{T:List iR}(S:SetT prog w ip o T):(T.map (·.2.1)).Nodup:=by obtain⟨es,ep,t,_,X,_,_,_⟩:=S;exact X.kn
theorem aOv{R:Result->BP->Prop}{I S:BQ}{fp wr:List BQ}{n:Nat}{P:Nat->BO->Prop}{St:Nat->BS->Prop}(hu:A.in1.units<AQ)(W:Walks prog w A.in1 I fp wr n P St)(hSf:S∉fp)(vs:List (List Key)){ip:Bool}(hip:ip=true->∀k∈vs,∀z∈k,∃i,z=Sum.inl i)(hn:vs.length=n)(h16:n<=72)(h0:BS)
  (hval:∀i v,P i v->∃x,v=.ref x/\x≠S/\x∉wr/\(tK prog w).is h0 (vs.getD i []) x):∀ (m i:Nat) (s:BP) (o:BZ) (T:List iR),n-i=m->i<=n->St i s.heap->s.heap.get? S=some o->SetT prog w ip o T->(∀k,k∈T.map (·.2.1)↔k∈vs.take i)->(∀p∈T.map (·.2),p.2≠S/\p.2∉wr/\(tK prog w).is h0 p.1 p.2/\∃i,P i (.ref p.2)/\vs.getD i []=p.1)->(∀b x,b≠S->b∉wr->h0.get? b=some x->s.heap.get? b=some x)->
   (∀h' tk o' T',(∀b x,b≠S->b∉wr->s.heap.get? b=some x->h'.get? b=some x)->h'.get? S=some o'->SetT prog w ip o' T'->(∀k,k∈T'.map (·.2.1)↔k∈vs)->(∀p∈T'.map (·.2),∃i,P i (.ref p.2)/\vs.getD i []=p.1)->R (.ok (.ret .none)) {s with heap:=h',toks:=tk})->
   codeAny (AE prog w) A (.builtin "set.update.loop" ⟨[.ref S,.ref I],[]⟩) R s:=by
 have hSw:S∉wr:=λh=>hSf (W.sub _ h)
 intro m
 induction m with
 |zero=>
  intro i s o T hm hi st ho sm kt rt k0 k;have e:i=n:=by omega
  subst e;refine Ai F.entry_set_update_loop ?_;rw[Around.under_plainId F.plain_set_update_loop];refine AA (W.done s _ _ st λh' tk kp=>AB ?_);rw[<-hn,fM] at kt;exact k h' tk o T (λb x _ hb g=>kp b x hb g) (kp S o hSw ho) sm kt λp hp=>(rt p hp).2.2.2
 |succ m ih=>
  intro i s o T hm hi st ho sm kt rt k0 k;have hlt:i<n:=by omega
  have hlt':i<vs.length:=by omega
  refine Ai F.entry_set_update_loop ?_;rw[Around.under_plainId F.plain_set_update_loop];refine AA (W.item i s _ _ hlt st λv h' tk hP st' kp=> ?_);obtain⟨x,rfl,xS,xw,hx⟩:=hval i v hP;have vi:vs.getD i []=vs[i]:=by simp[bR,hlt']
  have tk1:vs.take (i+1)=vs.take i++[vs.getD i []]:=by rw[fD,vi];simp[hlt']
  have k1:∀b x,b≠S->b∉wr->h0.get? b=some x->h'.get? b=some x:=λb x h1 h2 g=>kp b x h2 (k0 b x h1 h2 g)
  have tl:T.length<=72:=aJl sm.nd kt (by rw[cT];omega);refine AA (AV (addT (s:={s with heap:=h',toks:=tk}) (λz=>hip z _ (by rw[vi];exact gY hlt')) hu tl (kp S o hSw ho) sm (λr hr=> ?_) (vU hx λo g=>k1 x o xS xw g) λb h2 o2 tk2 T2 sb g2 sm2 rt2 kt2=> ?_))
  ·obtain⟨q1,q2,q3,_⟩:=rt r.2 (cN hr);exact vU q3 λo g=>k1 _ o q1 q2 g
  ·refine AB ⟨BE F.plain_set_update_loop _,ih (i+1) _ o2 T2 (by omega) hlt (W.frame _ _ _ st' λb hb x g=> ?_) g2 sm2 (λk=> ?_) (λp hp=> ?_) (λb x h1 h3 g=> ?_) λh3 tk3 o3 T3 kp3 g3 sm4 kt4 rt4=> ?_⟩
   ·rw[sb.2 b λz=>hSf (z▸hb)];exact g
   ·rw[kt2,kt,tk1,bC,aJ];exact⟨λz=>z.symm,λz=>z.symm⟩
   ·rcases rt2 p hp with rfl|z
    ·exact⟨xS,xw,hx,i,hP,rfl⟩
    ·exact rt p z
   ·rw[sb.2 b h1];exact k1 b x h1 h3 g
   ·refine k h3 tk3 o3 T3 (λb x h1 h2 g=>kp3 b x h1 h2 ?_) g3 sm4 kt4 rt4;rw[sb.2 b h1];exact kp b x h2 g
theorem aOJ{ip:Bool}:SetT prog w ip (aFt w) []:=⟨#[],0,aNS (!byT w) [],rfl,⟨.inl rfl,rfl,rfl,rfl,List.Pairwise.nil,λr h=>(by cases h),λr h=>(by cases h),eQ⟩,⟨λ_=>bS _,λ_=>bS _,by show(7:Nat)≠63;decide,by show(7:Nat)≠255;decide⟩,rfl,λ_=>rfl⟩
theorem aOD{R:Result->BP->Prop}{S l:BQ}{items:Array BO}(hu:A.in1.in1.units<AQ)(vs:List (List Key)){ip:Bool}(hip:ip=true->∀k∈vs,∀z∈k,∃i,z=Sum.inl i)(hn:vs.length=items.size)(h16:items.size<=72)(hi:∀ (i:Nat) (v:BO),items[i]? =some v->∃x,v=.ref x/\x≠S/\(tK prog w).is s.heap (vs.getD i []) x)(hh:A.handled=none)
  (ho:s.heap.get? S=some (aFt w)) (ht:s.heap.IsList l items)
  (k:∀h' tk o' T',(∀b x,b≠S->s.heap.get? b=some x->h'.get? b=some x)->h'.get? S=some o'->SetT prog w ip o' T'->(∀k,k∈T'.map (·.2.1)↔k∈vs)->(∀p∈T'.map (·.2),∃i:Nat,items[i]? =some (.ref p.2)/\vs.getD i []=p.1)->R (.ok (.ret .none)) {s with heap:=h',toks:=tk}):
  AH (AE prog w) A.in1 (Builtin.«set.__init__» ⟨[.ref S,.ref l],[]⟩) (λfin s'=>match fin with | .done f=>R (.ok f) s' | .again c'=>c'.quiet=true/\codeAny (AE prog w) A c' R s') (λe s'=>R (.error e) s') s:=by
 obtain⟨ol,hol,hcl,nl,hdl⟩:=id ht;obtain⟨ocls,odict,odata,oslots⟩:=ol;simp only at hcl hdl;subst hcl hdl;have q1:=aAH;have q2:=aBQ;have q3:(Value.type "list"==Value.type "dict")=false:=by decide
 have hT:Shared.TypeIs s (.ref S) "set":=⟨_,ho,rfl⟩
 have hSl:S≠l:=λz=>by rw[z,hol] at ho;have q:(Value.type "list")=Value.type "set":=congrArg Obj.cls (cC.inj ho);exact absurd q (by decide)
 unfold Builtin.«set.__init__» noKeywords Builtin.Frozenset.updateFrom;generalize pI:pyIter=PI
 wp_walk
 subst pI;refine BG (show s.heap.IsList l items from ht) (AA (wpAny_runValue ?_));have lS:l<s.heap.objs.size:=aK hol;have sS:S<s.heap.objs.size:=aK ho;refine aOv (n:=items.size) (P:=λi v=>items[i]? =some v) hu (Walks.list (A:=A.in1.in1) (by simpa using hh) s.heap.objs.size l (bH lS) items) (λz=> ?_) vs hip hn h16 s.heap (λi v hv=> ?_) (items.size-0) 0 _ (aFt w) [] rfl (bS _) ⟨⟨_,aZ _ rfl,rfl,rfl⟩,ht.push _⟩ (aD _ ho) aOJ (λk=>by simp) (λp hp=>by cases hp) (λb x h1 h2 g=>aD _ g) λh' tk o' T' kp g sm kt rt=> ?_
 ·rcases aQ.mp z with z|z
  ·exact bH sS z
  ·exact hSl (by simpa using z)
 ·obtain⟨x,e,xS,hx⟩:=hi i v hv;obtain⟨o,_,_,hxo,_⟩:=(show IsTupleKey (eY prog w) s.heap _ x from hx);exact⟨x,e,xS,λz=>absurd (aK hxo) (by rw[show x=s.heap.objs.size by simpa using z];exact eA _),hx⟩
 ·refine AB (AB (k h' tk o' T' (λb x h1 g=>kp b x h1 (λz=> ?_) (aD _ g)) g sm kt rt));have z:b=s.heap.objs.size:=by simpa using z
  exact absurd (aK g) (by rw[z];exact eA _)
theorem aOK{E:BO->BP->Prop}{Q:BO->BP->Prop}{l:BQ}{items:Array BO}(hu:A.units+8<AQ)(vs:List (List Key)){ip:Bool}(hip:ip=true->∀k∈vs,∀z∈k,∃i,z=Sum.inl i)(hn:vs.length=items.size)(h16:items.size<=72)(hi:∀ (i:Nat) (v:BO),items[i]? =some v->∃x,v=.ref x/\(tK prog w).is s.heap (vs.getD i []) x)(hh:A.handled=none)(ht:s.heap.IsList l items)
  (k:∀h' tk o' T',(∀b x,s.heap.get? b=some x->h'.get? b=some x)->h'.get? s.heap.objs.size=some o'->SetT prog w ip o' T'->(∀k,k∈T'.map (·.2.1)↔k∈vs)->(∀p∈T'.map (·.2),∃i:Nat,items[i]? =some (.ref p.2)/\vs.getD i []=p.1)->Q (.ref s.heap.objs.size) {s with heap:=h',toks:=tk}):
  AH (AE prog w) A (call (.type "set") [.ref l]) Q E s:=by
 obtain⟨c,tl,m1⟩:=F.called_set.mro;have m2:=F.called_set.made;have m3:=F.called_set.sub;refine wpAny_call (codeAny_of_tree (show AH _ _ (callAny (.type "set") _) _ _ _ from ?_));refine AB ⟨Code.quiet_builtin _ (by decide+kernel),Ai F.entry_type_call ?_⟩;rw[Around.under_plain (weight_type_call_type "set" [Value.ref l] []) rfl];have m4:=F.called_set.notType;have m5:=F.called_set.canCreate;have m6:=F.typeCall_set_1 (.ref l)
 repeat (any_goals (first|assumption|wp_step))
 refine BB (newK (.ref l) (E:=E) (Q₁:=λob s1=>ob=.ref s.heap.objs.size/\s1={s with heap:=s.heap.push (aFt w)}) ⟨rfl,rfl⟩) λr s1 hr=> ?_
 cases r with
 |error e=>exact hr
 |ok fl=>
  cases fl with
  |ret ob=>
   obtain⟨rfl,rfl⟩:=hr;have ho:(s.heap.push (aFt w)).get? s.heap.objs.size=some (aFt w):=aZ _ rfl;have hT:Shared.TypeIs {s with heap:=s.heap.push (aFt w)} (.ref s.heap.objs.size) "set":=⟨_,ho,rfl⟩;have m7:=F.called_set.init.lookup;have m8:=F.called_set.init.bind (.ref s.heap.objs.size)
   repeat (any_goals (first|assumption|wp_step))
   refine BB (codeAny_call_builtin (R:=wants (λr s2=>r=.none/\∃h' tk o' T',s2={s with heap:=h',toks:=tk}/\(∀b x,s.heap.get? b=some x->h'.get? b=some x)/\h'.get? s.heap.objs.size=some o'/\SetT prog w ip o' T'/\(∀k,k∈T'.map (·.2.1)↔k∈vs)/\(∀p∈T'.map (·.2),∃i:Nat,items[i]? =some (.ref p.2)/\vs.getD i []=p.1)) E) F.called_set.init.plain F.entry_set_init (check_set_init_1 hT ?_)) λr2 s2 hr2=> ?_
   ·refine aOD (s:={s with heap:=s.heap.push (aFt w)}) (by simp only[Around.in1];omega) vs hip hn h16 (λi v hv=> ?_) (by simpa using hh) ho (ht.push _) λh' tk o' T' kp g sm kt rt=> ?_
    ·obtain⟨x,e,hx⟩:=hi i v hv;obtain⟨o,_,_,hxo,_⟩:=(show IsTupleKey (eY prog w) s.heap _ x from hx);exact⟨x,e,bH (aK hxo),vU hx λo g=>aD _ g⟩
    ·exact⟨rfl,h',tk,o',T',rfl,λb x gx=>kp b x (bH (aK gx)) (aD _ gx),g,sm,kt,rt⟩
   ·cases r2 with
    |error e=>exact hr2
    |ok fl2=>
     cases fl2 with
     |ret r=>
      obtain⟨rfl,h',tk,o',T',rfl,kp,g,sm,kt,rt⟩:=hr2
      repeat (any_goals (first|assumption|wp_step))
      exact k _ _ _ _ kp g sm kt rt
     |_=>exact hr2.elim
  |_=>exact hr.elim
end
structure TabU(hs:List Key->Int)(t:BW)(es:Array (Int×BO))(T:List iR)(ds:List Nat):Prop where
 om:okM t.mask
 pl:t.place=(T.map (·.1)).toArray
 en:es=(T.map λr=>(hs r.2.1,Value.ref r.2.2)).toArray
 du:t.dummies=ds.toArray
 rs:(T.map (·.1)).Pairwise (·<·)
 dr:ds.Pairwise (·<·)
 dj:∀d∈ds,d∉T.map (·.1)
 lt:∀r∈T,r.1<=t.mask
 rc:∀r∈T,∃n,(pr t.mask (hs r.2.1) n).j=r.1/\∀i,i<n->(pr t.mask (hs r.2.1) i).j∈T.map (·.1)++ds
 kn:(T.map (·.2.1)).Nodup
theorem oC{α β:Type}{f:α->β}{l:List α}{l':List β}(h:l'.Perm (l.map f)):∃l2:List α,l2.Perm l/\l'=l2.map f:=by
 generalize hy:l.map f=y at h
 induction h generalizing l with
 |nil=>
  have:l=[]:=by simpa using hy
  subst this;exact⟨[],.refl _,rfl⟩
 |cons x p ih=>
  cases l with
  |nil=>simp at hy
  |cons a t=>simp only[aX,aKG.injEq] at hy;obtain⟨l3,q1,q2⟩:=ih hy.2;exact⟨a::l3,q1.cons a,by rw[aX,hy.1,q2]⟩
 |swap x y l0=>
  match l,hy with
  |a::b::t,hy=>simp only[aX,aKG.injEq] at hy;exact⟨b::a::t,List.Perm.swap a b t,by rw[aX,aX,hy.1,hy.2.1,hy.2.2]⟩
  |[a],hy=>simp at hy
  |[],hy=>simp at hy
 |trans p1 p2 ih1 ih2=>obtain⟨l3,q1,q2⟩:=ih2 hy;obtain⟨l4,r1,r2⟩:=ih1 q2.symm;exact⟨l4,r1.trans q1,r2⟩
section
variable {X:Cx}{sd:List Slot}{a b:Expr}{pos:Pos}
noncomputable def lV(k:List Key):D:=.tup (k.map kD)
end
structure TOk(w:AL)(es:List (Int×BO))(t:BW)(ks:List Nat):Prop where
 fit:t.fits es.toArray.size=true
 pl:t.plain=true
 led:t.led= !byT w
 place:t.place=ks.toArray
 asc:ks.Pairwise (·<·)
 len:es.length=ks.length
noncomputable def soT(es:List (Int×BO))(ep:Nat)(t:BW):BZ:={cls:=.type "set",dict:=none,data:=.set es.toArray ep t}
theorem aMu{w:AL}{ks:List Nat}(h:ks.Pairwise (·<·))(hb:byT w=false)(i:Nat)(hi:i<=ks.length):gC ks.toArray (stK w ks i)=i:=by
 have e:ks=ks.take i++ks.drop i:=(hV i ks).symm;have l1:(ks.take i).length=i:=by rw[cT];omega
 have g:gC (ks.take i++ks.drop i).toArray (stK w ks i)=(ks.take i).length:=by
  have pw:=jN.mp h;refine sG (λx hx=> ?_) (λx hx=> ?_)
  ·obtain⟨j,hj,rfl⟩:=eZ hx;have hj2:j<i:=by omega
   cases i with
   |zero=>omega
   |succ i=>
    have st:stK w ks (i+1)=ks.getD i 0+1:=by unfold stK;rw[hb];rfl
    rw[st,aIi];have hi':i<ks.length:=by omega
    have eg:ks.getD i 0=ks[i]:=by simp[bR,hi']
    show ks[j]<ks.getD i 0+1;rw[eg]
    by_cases q:j=i
    ·subst q;omega
    ·have:=pw j i (by omega) hi' (by omega);omega
  ·obtain⟨j,hj,rfl⟩:=eZ hx;rw[gW] at hj;cases i with
   |zero=>
    have st:stK w ks 0=0:=by unfold stK;rw[hb];rfl
    rw[st];exact bS _
   |succ i=>
    have st:stK w ks (i+1)=ks.getD i 0+1:=by unfold stK;rw[hb];rfl
    rw[st,List.getElem_drop];have hi':i<ks.length:=by omega
    have eg:ks.getD i 0=ks[i]:=by simp[bR,hi']
    show ks.getD i 0+1<=_;rw[eg];exact pw i (i+1+j) hi' (by omega) (by omega)
 rw[<-e,l1] at g;exact g
section
variable {prog:AG}{w:AL}{A:BR}{E:BO->BP->Prop}{s:BP}
theorem aOx{S:BQ}{es:List (Int×BO)}{ep i:Nat}{ks:List Nat}{tb:BW}{Q:Option (BO×Nat)->BP->Prop}(hk:TOk w es tb ks)(ho:s.heap.get? S=some (soT es ep tb))(hi:i<=ks.length)(h:Q (((oP w S ep es)[i]?).map λe=>(e.2,stK w ks (i+1))) s):
  AH (AE prog w) A (setNext S (stK w ks i) i ep) Q E s:=by
 unfold setNext;refine AA (AW ho rfl (hk.fit) ?_);dsimp only;refine AA ?_;unfold setsByText;refine AA (BK (AB ?_));show AH _ _ (if byT w=true then _ else _) _ _ _;cases hb:byT w with
 |true=>
  simp only[if_true,bne_self_eq_false,aR,if_false];refine AA ?_;unfold setWalk;refine AA (AW ho rfl (hk.fit) ?_);dsimp only;refine AA ?_;unfold setsByText;refine AA (BK (AB ?_));show AH _ _ (if byT w=true then _ else _) _ _ _;rw[hb];simp only[if_true];refine AA (BK (AB (AB ?_)));have e:oP w S ep es=(pickOrder (w.params.setOrder S ep) es.toArray).toList:=by unfold oP;rw[hb];rfl
  have e2:stK w ks i=stK w ks (i+1):=by unfold stK;rw[hb];rfl
  rw[e] at h;rw[e2];rw[dG] at h;exact h
 |false=>
  simp only[aR,if_false];have e:oP w S ep es=es:=by unfold oP;rw[hb];rfl
  have e2:gC tb.place (stK w ks i)=i:=by rw[hk.place];exact aMu hk.asc hb i hi
  have e3:((oP w S ep es)[i]?).map (fun e=>(e.2,stK w ks (i+1)))=(match es.toArray[i]?,tb.place[i]? with
     |some (_,x),some j=>some (x,j+1)
     |_,_=>none):=by
   have e4:stK w ks (i+1)=ks.getD i 0+1:=by unfold stK;rw[hb];rfl
   rw[e,e4];rw[hk.place]
   show _=(match es.toArray[i]?,ks.toArray[i]? with
     |some (_,x),some j=>some (x,j+1)
     |_,_=>none)
   by_cases h1:i<ks.length
   ·have h2:i<es.length:=by rw[hk.len];exact h1
    simp[h1,h2,bR]
   ·have h2:¬ i<es.length:=by rw[hk.len];exact h1
    simp[h1,h2]
  rw[e2];rw[e3] at h
  have r1:∀ (t t':Sem (Option (BO×Nat))),AH (AE prog w) A t Q E s->AH (AE prog w) A (if(!tb.plain&&decide (es.toArray.size>1))=true then t' else t) Q E s:=λt t' ht=>by rw[hk.pl];exact ht
  refine r1 _ _ ?_;have led:tb.led=true:=by rw[hk.led,hb];rfl
  refine AA ?_
  wp_delta
  rw[led];exact AB (AB h)
theorem aLE{I S:BQ}{es:List (Int×BO)}{ep i:Nat}{ks:List Nat}{tb:BW}{Q:Option BO->BP->Prop}(hk:TOk w es tb ks)(hI:s.heap.get? I=some (itK w S ks ep i))(ho:s.heap.get? S=some (soT es ep tb))(hi:i<=ks.length)
  (h:AH (AE prog w) A.in1 (match ((oP w S ep es)[i]?).map fun e=>(e.2,stK w ks (i+1)) with
       |some (x,next)=>do
        setField (Value.ref I) 0 (Ax next)
        setField (Value.ref I) 1 (Ax ((i:Int)+1))
        ret x
       |none=>do
        setField (Value.ref I) 2 Value.none
        raiseNew (<-newExc (Value.type "StopIteration") [])) (λfin s'=>∃v,fin=Fin.done (Flow.ret v)/\AH (AE prog w) A (pure (some v)) Q E s')
  (λe s'=>AH (AE prog w) A (do if <-isInstance e (Value.type "StopIteration") then pure none else throw e) Q E s') s):AH (AE prog w) A (pyNext (.ref I)) Q E s:=by
 have hT:=yH hI;unfold pyNext;refine AA (BL (AS (name:=Str.ofString "__next__") hT slot_sit_next (AT slot_sit_next hT wN ?_ (xY _))));unfold Builtin.«set_iterator.__next__»;refine AA (AB (AA (wpAny_fieldsOf hI rfl ?_)));dsimp only;show AH _ _ (setEntries S>>=λes=>if((es.size:Int) !=(ks.length:Int))=true then _ else(setNext S (stK w ks i:Int).toNat (i:Int).toNat (ep:Int).toNat>>=_)) _ _ _;refine AA ?_;unfold setEntries;refine AA (AW ho rfl (hk.fit) (AB ?_));rw[if_neg (by simp[hk.len])];rw[dE,dE,dE];exact AA (aOx hk ho hi h)
theorem aNT{I S:BQ}{es:List (Int×BO)}{ep i:Nat}{ks:List Nat}{tb:BW}{c:Int}{v:BO}{Q:Option BO->BP->Prop}(hk:TOk w es tb ks)(hI:s.heap.get? I=some (itK w S ks ep i))(ho:s.heap.get? S=some (soT es ep tb))(hi:i<ks.length)(hv:(oP w S ep es)[i]? =some (c,v))
  (h:∀h',h'.get? I=some (itK w S ks ep (i+1))->Heap.SameBut I s.heap h'->Q (some v) {s with heap:=h'}):AH (AE prog w) A (pyNext (.ref I)) Q E s:=by
 refine aLE hk hI ho (cW hi) ?_;rw[hv];dsimp only[aFo];refine AA (Ay hI rfl (by simp) ?_);have g1:=dX (Obj.mapFields (·.setIfInBounds 0 (Ax ((stK w ks (i+1):Nat):Int)))) hI rfl;refine AA (Ay (s:={s with heap:=s.heap.update I (Obj.mapFields (·.setIfInBounds 0 (Ax ((stK w ks (i+1):Nat):Int))))}) g1 rfl (by simp) ?_);have g2:=dX (Obj.mapFields (·.setIfInBounds 1 (Ax ((i:Int)+1)))) g1 rfl;refine AB ⟨v,rfl,AB (h _ (g2.trans ?_) ((Heap.SameBut.update ..).trans (Heap.SameBut.update ..)))⟩;rfl
theorem endW{I S:BQ}{es:List (Int×BO)}{ep:Nat}{ks:List Nat}{tb:BW}{Q:Option BO->BP->Prop}(hh:A.handled=none)(hk:TOk w es tb ks)(hI:s.heap.get? I=some (itK w S ks ep ks.length))(ho:s.heap.get? S=some (soT es ep tb))(ho2:(oP w S ep es).length=ks.length)
  (h:∀h',Heap.ExtBut I s.heap h'->Q none {s with heap:=h'}):AH (AE prog w) A (pyNext (.ref I)) Q E s:=by
 refine aLE hk hI ho (aM _) ?_;rw[dW (by omega)];dsimp only[aFo];refine AA (Ay hI rfl (by simp) (AA ?_));simp only[newExc,newTuple];refine AA (AN (AA (m:=BI _ _) (wpAny_of_eq (a:=Value.none) (by first|rfl|(simp only[BI];rfl)) (AN ?_ (by size_fits)))) (by size_fits));simp only[raiseNew];refine AA (wpAny_handled ?_);rw[show A.in1.handled=none from hh];refine AA (AB (wpAny_throw ?_));refine AA (wpAny_isInstance (T:="StopIteration") (b:=true) ⟨_,aZ _ rfl,rfl⟩ isSubtype_stop (AB ?_));exact h _ (((Heap.SameBut.update ..).extBut.push _).push _)
theorem aOG{S:BQ}{es:List (Int×BO)}{ep:Nat}{ks:List Nat}{tb:BW}{Q:BO->BP->Prop}(hk:TOk w es tb ks)(ho:s.heap.get? S=some (soT es ep tb))
  (h:Q (.ref s.heap.objs.size) {s with heap:=s.heap.push (itK w S ks ep 0)}):AH (AE prog w) A (pyIter (.ref S)) Q E s:=by
 have hT:s.TypeIs (.ref S) "set":=⟨_,ho,rfl⟩;refine wpAny_pyIter_slot hT F.slot_set_iter (AT F.slot_set_iter hT aCb ?_ (F.args_set_iter_1 _));unfold Builtin.«frozenset.__iter__»;refine AA (AA (AB (AB (AA ?_))));unfold Builtin.Frozenset.sizeOf setEntries;refine AA (AA (AW ho rfl (hk.fit) (AB (AB ?_))));refine AA ?_;unfold setDrawn;refine AA (AW ho rfl (hk.fit) ?_);dsimp only;refine AA ?_;unfold setsByText;refine AA (BK (AB (AB ?_)))
 have dr:∀ (b:Bool) (t t':Sem Fin) (Q:Fin->BP->Prop) (E:BO->BP->Prop),AH (AE prog w) A.in1 t' Q E s->AH (AE prog w) A.in1 (if(b&&(!tb.plain&&decide (es.toArray.size>1)))=true then t else t') Q E s:=λb t t' Q E ht=>by
  have:(b&&(!tb.plain&&decide (es.toArray.size>1)))=false:=by rw[hk.pl];simp
  rw[this];exact ht
 refine dr _ _ _ _ _ (AA (AB (AA (wpAny_setEpoch_of ho rfl (hk.fit) ?_))));refine AA (AN (AB ⟨_,rfl,"set_iterator",_,⟨_,aZ _ rfl,rfl⟩,slot_sit_next.lookup, ?_⟩));have e0:stK w ks 0=0:=by unfold stK;split<;>rfl
 have e:({cls:=Value.type "set_iterator",data:=.fields [Ax 0,Ax 0,Value.ref S,Ax (es.toArray.size:Int),Ax (ep:Int)].toArray}:BZ)=itK w S ks ep 0:=by unfold itK;rw[e0];simp[hk.len]
 exact e▸h
theorem aBz{S:BQ}{ep:Nat}{es:List (Int×BO)}{ks:List Nat}{tb:BW}(hk:TOk w es tb ks):(oP w S ep es).length=ks.length:=by rw[(yL (w:=w) (S:=S) (ep:=ep) es).length_eq,hk.len]
theorem aMz(hh:A.handled=none){I S:BQ}{es:List (Int×BO)}{ep:Nat}{ks:List Nat}{tb:BW}(hk:TOk w es tb ks)(hne:S≠I):
  Walks prog w A I [I,S] [I] ks.length (λi v=>∃c,(oP w S ep es)[i]? =some (c,v)) (λi h=>h.get? I=some (itK w S ks ep i)/\h.get? S=some (soT es ep tb)) where
 sub:=λb hb=>by simp at hb;simp[hb]
 frame:=λ_ _ _ st kp=>⟨kp I (by simp) _ st.1,kp S (by simp) _ st.2⟩
 item:=λi s Q E hi st k=>by
  have hi':i<(oP w S ep es).length:=by rw[aBz hk];exact hi
  obtain⟨⟨c,v⟩,hx⟩:∃p,(oP w S ep es)[i]? =some p:=⟨(oP w S ep es)[i],by simp[hi']⟩;refine aNT hk st.1 st.2 hi hx λh' g sb=>k v h' s.toks ⟨c,hx⟩ ⟨g, ?_⟩ λb o hb g=> ?_
  ·rw[sb.2 S hne];exact st.2
  ·rw[sb.2 b λz=>hb (by simp[z])];exact g
 done:=λs Q E st k=>endW hh hk st.1 st.2 (aBz hk) λh' eb=>k h' s.toks λb o hb g=>eb b o (λz=>hb (by simp[z])) g
 self:=λ_ _ _ _ st k=>aOm st.1 k
theorem srcW{S:BQ}{es:List (Int×BO)}{ep:Nat}{ks:List Nat}{tb:BW}(hk:TOk w es tb ks):PySem.W.KdlSrc prog w "set" S S ks.length (λi v=>∃c,(oP w S ep es)[i]? =some (c,v)) (λh=>h.get? S=some (soT es ep tb)) where
 type:=λ_ hm=>⟨_,hm,rfl⟩
 there:=λ_ hm=>⟨aK hm,aK hm⟩
 keep:=λ_ _ hm kp=>kp S (.inl rfl) _ hm
 notList:=by decide
 notTuple:=by decide
 hint:=λ_ _ _ _ hm q=>aOA ⟨_,hm,rfl⟩ q
 iter:=λ_ _ hh hm=>⟨_,_,(λ_ _ q=>aOG hk hm q),aMz hh hk (bH (aK hm)),⟨aZ _ rfl,aD _ hm⟩⟩
end
noncomputable def iE(h:BS)(a:BQ)(vs:List BO):BS:=((h.update a (Obj.mapSeq λ_=> #[])).push (Ab "tuple" vs.toArray 0)).push (Ab "list" #[] 0)
section
variable {prog:AG}{w:AL}{A:BR}{E:BO->BP->Prop}{s:BP}
theorem qX(vs:List BO):(vs.toArray.zip vs.toArray).toList=vs.map λv=>(v,v):=by
 rw[Array.toList_zip];show vs.zip vs=_
 induction vs with
 |nil=>rfl
 |cons v vs ih=>rw[eR,ih];rfl
theorem aJZ{κ:Ap}{rk:BO->Nat}{vs:List BO}(nd:(vs.map rk).Nodup)(hask:∀x∈vs,∀y∈vs,∀ (Q:Bool->BP->Prop) (E':BO->BP->Prop),Q (decide (rk x<rk y)) s->AH (AE prog w) A (keyLt' κ x y) Q E' s):lG prog w A E s κ (λp=>rk p.1) (vs.toArray.zip vs.toArray):=by
 refine⟨λ{x y st Q} hx hy hk h=> ?_, ?_⟩
 ·rw[qX] at hx hy;obtain⟨u,hu,rfl⟩:=aO.mp hx;obtain⟨v,hv,rfl⟩:=aO.mp hy;rw[lt'_eq];refine AF (wpS_get ?_);rw[hk];exact AF (wpS_lift (BL (hask u hu v hv _ _ ⟨rfl,AJ h⟩)))
 ·rw[qX,aV];exact nd
theorem pY{a:BQ}{vs:List BO}{n:Nat}{κ:Ap}{rk:BO->Nat}{R:PySem.Fin->BP->Prop}(ho:s.heap.get? a=some (Ab "list" vs.toArray n))(nd:(vs.map rk).Nodup)(hn:vs.length<=10000)
  (hkind:2<=vs.length->∀ (Q:Ap->BP->Prop),Q κ ⟨iE s.heap a vs,s.gens,s.drawn,s.toks,s.os⟩->AH (AE prog w) A (keyKind' vs.toArray) Q E ⟨iE s.heap a vs,s.gens,s.drawn,s.toks,s.os⟩)
  (hask:∀x∈vs,∀y∈vs,∀ (Q:Bool->BP->Prop) (E':BO->BP->Prop),Q (decide (rk x<rk y)) ⟨iE s.heap a vs,s.gens,s.drawn,s.toks,s.os⟩->AH (AE prog w) A (keyLt' κ x y) Q E' ⟨iE s.heap a vs,s.gens,s.drawn,s.toks,s.os⟩)
  (h:∀out:Array BO,out.toList.Perm vs->(out.toList.map rk).Pairwise (·<·)->R (.done (.ret .none)) {s with heap:=sortedHeap s.heap a vs out}):AH (AE prog w) A (Builtin.«list.sort» ⟨[.ref a],[]⟩) R E s:=by
 have lt:a<s.heap.objs.size:=aK ho;have sz:vs.toArray.size=vs.length:=by simp
 obtain⟨n0,g1⟩:∃n0,(s.heap.update a (Obj.mapSeq λ_=> #[])).get? a=some (Ab "list" #[] n0):=⟨_,BM ho (λ_=> #[])⟩
 have n1:a≠((s.heap.update a (Obj.mapSeq λ_=> #[])).push (Ab "tuple" vs.toArray 0)).objs.size:=by rw[size_push',oO];exact bH (nT lt)
 have n2:a≠(s.heap.update a (Obj.mapSeq λ_=> #[])).objs.size:=by rw[oO];exact bH lt
 have g6:(iE s.heap a vs).get? a=some (Ab "list" #[] n0):=by unfold iE;rw[aIm _ _ _ n1,aIm _ _ _ n2,g1]
 rw[list_sort_plain];refine AA (listItems_at ho rfl (AA (listUpdate_at ho rfl (AA (seqEpoch_at g1 rfl (AA (wpAny_newTuple (AA (wpAny_newList (AV ?_) (bS _))) (by show vs.length<=_;rw[Ac];omega))))) (by rw[sz,Ac];omega) (bS _))));show AH (AE prog w) A _ R E ⟨iE s.heap a vs,s.gens,s.drawn,s.toks,s.os⟩;dsimp only
 by_cases h2:vs.toArray.size<2
 ·rw[if_pos h2,if_pos h2];refine AA (AB ?_);rw[StateT.run_pure];refine AA (AB (AA (seqEpoch_at g6 rfl (AA (listUpdate_at g6 rfl ?_ (bS _) ?_)))))
  ·simp only[bne_self_eq_false,if_false,aR];refine AB ?_
   have e:Array.map (λ(x:AI)=>x.2) (AK (SortSt.mk' general' (vs.toArray.zip vs.toArray) #[] 7 none))=vs.toArray:=by apply kX.mp;rw[uG];show(vs.toArray.zip vs.toArray).toList.map _=vs;rw[qX,aV];exact jG _
   rw[e];refine h vs.toArray (.refl _) ?_;rw[sz] at h2
   match vs,h2 with
   |[],_=>exact .nil
   |[v],_=>exact kE _ _
  ·show(Array.map _ (vs.toArray.zip vs.toArray)).size<=_;rw[Array.size_map,Array.size_zip,sz,Ac];omega
 ·rw[if_neg h2,if_neg h2];rw[sz] at h2;refine AA (hkind (by omega) _ ?_);have K:lG prog w A E ⟨iE s.heap a vs,s.gens,s.drawn,s.toks,s.os⟩ κ (λp=>rk p.1) (vs.toArray.zip vs.toArray):=aJZ nd hask;refine AA (Ah (aEi (Q:=λ_ st'=>SB κ (vs.toArray.zip vs.toArray) st'/\AscR (λp=>rk p.1) (AK st') 0 (vs.toArray.zip vs.toArray).size) K (st:=SortSt.mk' κ (vs.toArray.zip vs.toArray) #[] 7 none) ⟨Array.Perm.refl _,rfl,rfl⟩ rfl λst' b c=>⟨b,c⟩) ?_ λ_ _ z=>z);rintro⟨⟨⟩,st'⟩ s' ⟨rfl,hB,hA⟩;dsimp only
  have pm:(AK st').toList.Perm (vs.map λv=>(v,v)):=by
   have:=gZ.mp hB.perm
   rwa[qX] at this
  have p2:((AK st').map (·.2)).toList.Perm vs:=by rw[uG];have:=pm.map (·.2);rw[aV] at this;exact this.trans (List.Perm.of_eq (jG _))
  have sO:((AK st').map (·.2)).size=vs.length:=by
   have:=p2.length_eq
   rwa[cR] at this
  refine AA (seqEpoch_at g6 rfl (AA (listUpdate_at g6 rfl ?_ (bS _) ?_)))
  ·rw[hB.failed];simp only[bne_self_eq_false,if_false,aR];refine AB (h _ p2 ?_);rw[uG,aV,jN];intro i j hi hj hij;rw[aB,cR] at hi hj;have q:=hA i j (bS _) hij (by rw[<-hB.size];exact hj);rw[eG hi,eG hj] at q
   have d:∀p∈(AK st').toList,p.1=p.2:=λp hp=>by obtain⟨v,_,rfl⟩:=aO.mp (pm.mem_iff.mp hp);rfl
   rw[fJ,fJ];have d1:=d (AK st')[i] (by simp);have d2:=d (AK st')[j] (by simp);rw[d1,d2] at q;simpa using q
  ·rw[sO,Ac];omega
end
open PySem.W (kat_lt kat_cons kat_nil kat_yes kat_no kat_one kat_kind KatTups KatLex)
section
variable {prog:AG}{w:AL}{A:BR}{E:BO->BP->Prop}{s:BP}
theorem aBW{l:BQ}{vs:List BO}{κ:Ap}{rk:BO->Nat}{Q:BO->BP->Prop}(hl:s.heap.IsList l vs.toArray)(nd:(vs.map rk).Nodup)(hn:vs.length<=10000)
  (hkind:∀t:BP,(∀b o,s.heap.get? b=some o->t.heap.get? b=some o)->2<=vs.length->∀ (A':BR) (R:Ap->BP->Prop) (E':BO->BP->Prop),A'.units<=A.units+2->R κ t->AH (AE prog w) A' (keyKind' vs.toArray) R E' t)
  (hask:∀t:BP,(∀b o,s.heap.get? b=some o->t.heap.get? b=some o)->∀x∈vs,∀y∈vs,∀ (A':BR) (R:Bool->BP->Prop) (E':BO->BP->Prop),A'.units<=A.units+2->R (decide (rk x<rk y)) t->AH (AE prog w) A' (keyLt' κ x y) R E' t)
  (h:∀out:Array BO,out.toList.Perm vs->(out.toList.map rk).Pairwise (·<·)->Q (.ref (s.heap.objs.size+1)) {s with heap:=sortedAll s.heap vs out}):AH (AE prog w) A (call (.builtin "sorted") [.ref l]) Q E s:=by
 have hsz:((s.heap.push (Ab "list" #[] 0)).update s.heap.objs.size (Obj.mapSeq (·++vs.toArray))).objs.size=s.heap.objs.size+1:=by rw[oO,size_push']
 have hoL:(((s.heap.push (Ab "list" #[] 0)).update s.heap.objs.size (Obj.mapSeq (·++vs.toArray))).push (Ab "list" vs.toArray 0)).get? (s.heap.objs.size+1)=some (Ab "list" vs.toArray 0):=by rw[<-hsz];exact aZ _ rfl
 have k2:∀b o,s.heap.get? b=some o->(((s.heap.push (Ab "list" #[] 0)).update s.heap.objs.size (Obj.mapSeq (·++vs.toArray))).push (Ab "list" vs.toArray 0)).get? b=some o:=λb o g=>by
  have nb:s.heap.objs.size≠b:=λz=>absurd (aK g) (by rw[<-z];exact eA _)
  refine aD _ ?_;rw[cI _ _ nb];exact aD _ g
 have k6:∀b o,s.heap.get? b=some o->(iE (((s.heap.push (Ab "list" #[] 0)).update s.heap.objs.size (Obj.mapSeq (·++vs.toArray))).push (Ab "list" vs.toArray 0)) (s.heap.objs.size+1) vs).get? b=some o:=λb o g=>by
  have nb:s.heap.objs.size+1≠b:=λz=>by have:=aK g;rw[<-z] at this;exact absurd this (aBG.mpr (kG _))
  unfold iE;refine aD _ (aD _ ?_);rw[cI _ _ nb];exact k2 b o g
 refine Calls.call_function_entry kind_sorted plain_sorted entry_sorted (args_sorted1 (.ref l)) ?_;unfold Builtin.«sorted»;refine AA (m:=checkCount "sorted" 1 1 _) (AB (AA (collect_list hl (AA (wpAny_newList ?_ (by rw[Ac];omega))) (by rw[Ac];omega))));show AH _ _ _ _ _ ⟨((s.heap.push (Ab "list" #[] 0)).update s.heap.objs.size (Obj.mapSeq (·++vs.toArray))).push (Ab "list" vs.toArray 0),s.gens,s.drawn,s.toks,s.os⟩;rw[hsz];refine AA (AV (AT slot_list_sort ⟨_,hoL,rfl⟩ entry_list_sort (pY (κ:=κ) (rk:=rk) (s:=⟨_,s.gens,s.drawn,s.toks,s.os⟩) hoL nd hn (λh2 R q=>hkind ⟨iE (((s.heap.push (Ab "list" #[] 0)).update s.heap.objs.size (Obj.mapSeq (·++vs.toArray))).push (Ab "list" vs.toArray 0)) (s.heap.objs.size+1) vs,s.gens,s.drawn,s.toks,s.os⟩ k6 h2 _ R _ ?_ q) (λx hx y hy R E' q=>hask ⟨iE (((s.heap.push (Ab "list" #[] 0)).update s.heap.objs.size (Obj.mapSeq (·++vs.toArray))).push (Ab "list" vs.toArray 0)) (s.heap.objs.size+1) vs,s.gens,s.drawn,s.toks,s.os⟩ k6 x hx y hy _ R E' ?_ q) λout p1 p2=>⟨_,rfl,AB ⟨_,rfl,h out p1 p2⟩⟩) (args_list_sort _)))
 all_goals simp only[Around.in1];omega
theorem aKi{A:BR}{fin b:Bool}{Q:Bool->BP->Prop}{r:List (BO×BO)}(x:aFu A s fin r b):∀ {i:Nat},Q b s->KatLex prog w A false fin Q r i s:=by
 induction x with
 |nil=>intro i q;exact kat_nil q
 |eq he _ ih=>intro i q;exact kat_cons (SeqAt.EqAt.of_in1 he prog w _ _ (kat_yes (ih q)))
 |@lt x y r b he hl=>intro i q;refine kat_cons (SeqAt.EqAt.of_in1 he prog w _ _ (kat_no ?_));rw[qC];exact kat_one x y (wpAny_of_in1 (hl prog w _ _ q))
end
theorem vT{α β:Type}{G:α->β->Prop}:∀ {l:List α}{m:List β}{n:Nat}{a:α},Paired G l m->l[n]? =some a->∃b,m[n]? =some b/\G a b
 |_,_,_,_,.nil,h=>by simp at h
 |_,_,0,_,.cons r _,h=>by cases h;exact⟨_,rfl,r⟩
 |_,_,n+1,_,.cons _ t,h=>vT (n:=n) t (by simpa using h)
theorem rS{α β:Type}{G:α->β->Prop}:∀ {l:List α}{m:List β} (n:Nat),Paired G l m->Paired G (l.eraseIdx n) (m.eraseIdx n)
 |_,_,_,.nil=>.nil
 |_,_,0,.cons _ t=>t
 |_,_,n+1,.cons r t=>.cons r (rS n t)
section
variable {X:Cx}
def aNQ(X:Cx):V->List V->Hp->VK->Prop:=λx vs H Q=>∃ (F:Hp) (l ad:BQ) (k:List Key) (y:V) (n:Nat) (o:BZ) (kvs:List (List Key×V)),x=.ref l/\vs=[.ref ad]/\Same F H/\H l=some (exO l o)/\F ad=some (.tup (k.map kV))/\X.A.units+1<AQ/\
 TDo X.prog X.w F l o kvs/\kvs[n]? =some (k,y)/\(∀o',(∀v,o'.data≠ .cell v)->TDo X.prog X.w F l o' (kvs.eraseIdx n)->Q y (upd H l (exO l o')))
theorem aLK:MtR X "dict.pop" (aNQ X):=by
 intro pins s σ H x vs v us Q I rx rv h;obtain⟨F,l,ad,k,y,n,o,kvs,rfl,rfl,sF,hl,ha,hu,⟨z,hm,ts,kt,es,ep,t1,t2,t3,t4⟩,hn,q1⟩:=h;obtain rfl:v=Value.ref l:=rx;obtain⟨u,rfl,ru⟩:=Vals.one rv;obtain rfl:u=Value.ref ad:=ru;have ho:s.heap.get? l=some o:=(I.hok l _ hl).1;have ktH:KT H kvs ts:=kt.keeps λb ys e=>sF _ _ e
 have dd:s.heap.DictOfH (Ar (eY X.prog X.w)) l ts:=⟨o,es,ep,ho,t1,t2,t3,KT.all I.hok ktH,t4⟩;have hz:ts.length<=AM:=by rw[<-Paired.length kt];exact z
 obtain⟨⟨k',b,w'⟩,hj,e1,_,rw'⟩:=vT kt hn;have e1:k=k':=e1;subst e1;refine call_meetsIn aAN dd.typeIs PySem.F.entry_dict_pop (PySem.F.args_dict_pop_2 _ _) (aBI (Ar (eY X.prog X.w)) l ad) ⟨BN hu,k,ts,n,(b,w'),tJ I.hok (sF _ _ ha),dd,hz,hj,λh' dd' hsm=> ?_⟩;obtain⟨q,es',ep',hq,u2,u3,u4,_,u5⟩:=dd';have I4:=uS (t':=s.toks+(Ar (eY X.prog X.w)).draws k) I (ob:=exO l q) (by rw[hl];exact True.intro) hsm ⟨q,hq⟩ (vF hq);exact⟨y,_,I4,rw',q1 q (λv z=>by rw[u3] at z;cases z) ⟨by have:=List.length_eraseIdx_le kvs n;omega,hm,_,rS n kt,es',ep',u2,u3,u4,u5⟩⟩
end
section
variable {X:Cx}{sd:List Slot}{e:Expr}{pos:Pos}{l:BQ}{ls:List BQ}{ks:List (List Key)}{dss:List (List D)}
theorem aIP(i:Nat){x:Str}{p p2:Pos}(hg:Gl X "len")(hm:X.mg "len"=none)(hs:sd[i]? =some (odG X.prog X.w X.K l ks ls dss))(hx:PE X (.Name x p2) (lH i))(hst:AD [.Name x p2] X.env=(false,eval (.Name x p2) X.env)::AD [] X.env:=by rfl):PEd X sd (.Call (.Name "len" p) [.Name x p2] [] pos) (.val (.int (ks.length:Nat))):=.mk λσ F H S=>
 (rB aEZ hg hm PySem.boot_len (fP hx pa_nil hst) (by decide) (by decide) hst rfl).to (by
  obtain⟨hv,hF,⟨o,g1,nc,hl,z,sm,xs,kt,es,ep,t1,t2,t3,t4⟩,hI,nd⟩:=iX S hs;refine⟨.ref l,hv,l,o,es,ep,rfl,g1,t1,t2,sm, ?_,F,S,Same.refl _, ?_⟩
  ·have:=BD t3;have e2:=Paired.length kt;omega
  ·have:=BD t3;have e2:=Paired.length kt;have e3:(ks.zip (ls.map V.ref)).length=ks.length:=by rw[lM,aB,hl,pE]
   simp only[ResOk,Rep]
   rw[this,<-e2,e3])
end
theorem aDS{F:Hp}:∀ {kvs:List (List Key×V)}{xs:List (List Key×BQ×BO)},KT F kvs xs->Vals (xs.map λq=>V.ref q.2.1) (xs.map λq=>Value.ref q.2.1)
 |_,_,.nil=>.nil
 |_,_,.cons _ t=>.cons rfl (aDS t)
theorem aHK{K:aA}{F:Hp}:∀ {kvs:List (List Key×V)}{xs:List (List Key×BQ×BO)},KT F kvs xs->RepL K F ((kvs.map (·.1)).map lV) (xs.map λq=>V.ref q.2.1)
 |_,_,.nil=>.nil
 |_,_, @Paired.cons _ _ _ p q _ _ r t=>by refine .cons ?_ (aHK t);simp only[lV,Rep];refine⟨q.2.1,p.1.map kV,rfl,r.2.1, ?_⟩;exact wY _
section
variable {X:Cx}{sd:List Slot}{e:Expr}{pos:Pos}{l:BQ}{ls:List BQ}{ks:List (List Key)}{dss:List (List D)}
theorem aGz(i:Nat){x:Str}{p p2:Pos}(hg:Gl X "list")(hm:X.mg "list"=none)(hs:sd[i]? =some (odG X.prog X.w X.K l ks ls dss))(hx:PE X (.Name x p2) (lH i))(hc:X.calm=true:=by rfl)(hst:AD [.Name x p2] X.env=(false,eval (.Name x p2) X.env)::AD [] X.env:=by rfl):PEd X sd (.Call (.Name "list" p) [.Name x p2] [] pos) (.own (ks.map lV)):=.mk λσ F H S pins s I=>by
 obtain⟨hv,hF,⟨o,g1,nc,hl,z,sm,xs,kt,es,ep,t1,t2,t3,t4⟩,hI,nd⟩:=iX S hs;refine Af (lU I hg hm PyProof.Rows.boot_list ?_);refine PyProof.Rows.callWith_type1 (thn ((fP hx pa_nil hst) pos pins s σ H (λus H1=>us=[.ref l]/\H1=H) I ⟨.ref l,hv,rfl,rfl⟩) λus s1 hus=> ?_) hst rfl;obtain⟨ws,H1,I1,rv,rfl,rfl⟩:=hus;obtain⟨u,rfl,ru⟩:=pA rv;cases(show u=Value.ref l from ru);have ez:es.size=xs.length:=BD t3
 have e3:(ks.zip (ls.map V.ref)).map (·.1)=ks:=by rw[List.map_fst_zip];rw[aB];omega
 have e2:xs.length=ks.length:=by have:=Paired.length kt;rw[lM,aB] at this;omega
 have ho:s1.heap.get? l=some o:=(I1.hok l _ g1).1;refine PySem.W.kdl_call (srcD sm t1 t2) (I1.ok.hd hc) ho (by have:=Paired.length kt;omega) λh' tk acc c' kp gl it=> ?_
 have al:acc=(xs.map λq=>Value.ref q.2.1).toArray:=by
  apply kX.mp;apply nO;intro j
  by_cases hj:j<acc.toList.length
  ·have e4:acc.toList[j]? =some acc.toList[j]:=by simp[hj]
   obtain⟨u,q,ev⟩:=it.2 j acc.toList[j] (by rw[<-dG];exact e4);rw[e4,ev];rw[<-dG,t3,bF] at q;obtain⟨y,hy,ey⟩:=gQ.mp q;rw[<-ey];simp[hy,entryOfKey]
  ·have a1:acc.toList.length=es.size:=by rw[cR];exact it.1
   rw[dW (by omega),dW (by simp;omega)]
 subst al;have le2:s1.heap.objs.size<=s1.heap.objs.size:=aM _;have hD:H1 s1.heap.objs.size=none:=I1.hok.fresh le2
 have I4:Inv X pins σ (upd H1 s1.heap.objs.size (.lst (xs.map λq=>V.ref q.2.1))) {s1 with heap:=h',toks:=tk}:=
  I1.laid kp le2 ⟨by rw[aB];have:=Paired.length kt;omega,_,c',aDS kt,gl⟩
 obtain⟨S4,fp,no⟩:=S.layO (xs:=xs.map λq=>V.ref q.2.1) hD;refine⟨.ref s1.heap.objs.size,_,I4,rfl,F,S4,Same.refl _,_,_,rfl,fp,cD, ?_,no⟩;have:=aHK (K:=X.K) kt;rw[e3] at this;exact this
end
section
variable {X:Cx}{sd:List Slot}{e:Expr}{pos:Pos}
noncomputable def kI(ds:List D):Nat:=Ae (λi k=>dlt (ds.getD i .non) (ds.getD k .non)) (ds.length-1)
structure aIA(X:Cx)(ds:List D):Prop where
 ne:0<ds.length
 cmp:∀d∈ds,∀d2∈ds,rG d d2=true
 pl:∀d∈ds,pl d=true
 dep:∀d∈ds,X.A.units+1+dep d<AQ
theorem aEy(hc:X.calm=true):mH X (.builtin "min") (λvs H Q=>∃ (a:BQ) (xs:List V) (ds:List D),vs=[.ref a]/\SqL X.K H a xs/\RepL X.K H ds xs/\aIA X ds/\∀v,xs[kI ds]? =some v->Q v H):=by
 intro pins s σ H vs us Q I r h;obtain⟨a,xs,ds,rfl,ha,rl,M,q⟩:=h;obtain⟨u,rfl,rx⟩:=pA r;cases(show u=Value.ref a from rx);obtain⟨its,rv,p,hz⟩:=I.list ha;have hl:=rv.length;have hd:=rl.len;have isl:s.heap.IsList a its.toArray:=p.isList;have alt:a<s.heap.objs.size:=by obtain⟨o,ho,_⟩:=isl;exact aK ho
 refine aED (BG isl ?_);refine⟨s.heap.objs.size,[s.heap.objs.size,a],[s.heap.objs.size],its.toArray.size,_,_,λh=>HOk X.prog X.w H h,λi k=>dlt (ds.getD i .non) (ds.getD k .non),rfl,Walks.list (A:=X.A.in1) (I.ok.hd hc) _ a (bH alt) its.toArray,⟨⟨_,aZ _ rfl,rfl,rfl⟩,isl.push _⟩,λb hb=> ?_,by simp;have:=M.ne;omega, ?_, ?_, ?_,λv h' tk pv k=> ?_⟩
 ·rw[iI];simp only[aQ,cV,or_false] at hb
  rcases hb with rfl|rfl
  ·exact jO _
  ·exact nT alt
 ·intro i k x y t Q' E' hJ hx hy q';have hx:its[i]? =some x:=by simpa using hx
  have hy:its[k]? =some y:=by simpa using hy
  have li:i<ds.length:=by have:=(aN.mp hx).1;omega
  have lk:k<ds.length:=by have:=(aN.mp hy).1;omega
  have ei:ds[i]? =some (ds.getD i .non):=by simp[bR,li]
  have ek:ds[k]? =some (ds.getD k .non):=by simp[bR,lk]
  obtain⟨v1,g1,r1⟩:=rl.get ei;obtain⟨v2,g2,r2⟩:=rl.get ek;obtain⟨u1,w1,z1⟩:=rv.get g1;obtain⟨u2,w2,z2⟩:=rv.get g2;rw[hx] at w1;rw[hy] at w2;cases w1;cases w2;have mi:=bD ei;have mk:=bD ek;exact aId hJ (ds.getD i .non) (M.cmp _ mi _ mk) (M.pl _ mi) (M.pl _ mk) r1 r2 z1 z2 (by have:=M.dep _ mi;simp only[Around.in1];omega) X.prog X.w _ _ q'
 ·exact zX (cs:=[]) I.hok (λb u _ g=>aD _ g) (λb hb=>by cases hb)
 ·intro h1 h2 j1 kp;refine zX (cs:=[s.heap.objs.size+1,s.heap.objs.size]) j1 (λb u hb g=>kp b u (λz=>hb ?_) g) λb hb=> ?_
  ·rw[iI] at z;exact z
  ·simp only[aQ,cV,or_false] at hb
   rcases hb with rfl|rfl
   ·exact I.hok.fresh (kG _)
   ·exact I.hok.fresh (aM _)
 ·have eb:Ae (λi k=>dlt (ds.getD i .non) (ds.getD k .non)) (its.toArray.size-1)=kI ds:=by unfold kI;rw[aW];congr 1;omega
  rw[eb] at pv;have pv:its[kI ds]? =some v:=by simpa using pv
  have lb:kI ds<xs.length:=by have:=(aN.mp pv).1;omega
  have ex:xs[kI ds]? =some xs[kI ds]:=by simp[lb]
  obtain⟨u,hu,ru⟩:=rv.get ex;rw[pv] at hu;cases hu;refine⟨xs[kI ds],H,I.kept (t':=tk) λb o g=>k b o (λz=> ?_) (aD _ g),ru,q _ ex⟩;have zb:b=s.heap.objs.size:=by simpa using z
  exact bH (aK g) zb
theorem aJc{p:Pos}{ds:List D}{d:D}(hg:Gl X "min")(hm:X.mg "min"=none)(ha:PEd X sd e (.bor ds))(M:aIA X ds)(hd:ds[kI ds]? =some d)(hc:X.calm=true:=by rfl)(hst:AD [e] X.env=(false,eval e X.env)::AD [] X.env:=by rfl):PEd X sd (.Call (.Name "min" p) [e] [] pos) (.val d):=
 oV (he:=hst) (aEy hc) hg hm boot_min (aE ha aU trivial hst) λσ F H vs Q S q k=>by
  cases q with
  |cons q1 q2=>cases q2;obtain⟨p,xs,rfl,hp,rl,_⟩:=q1;refine⟨p,xs,ds,rfl,.of hp,rl.mono S.sub,M,λv hv=>k v F H S (Same.refl _) ?_⟩;obtain⟨v',g,r'⟩:=rl.get hd;rw[hv] at g;cases g;exact r'
end
theorem yT{α β:Type}:∀ (a:List α) (b:List β) (n:Nat),a.length=b.length->(a.zip b).eraseIdx n=(a.eraseIdx n).zip (b.eraseIdx n)
 |[],[],_,_=>by simp
 |_::_,[],_,h=>by simp at h
 |[],_::_,_,h=>by simp at h
 |x::a,y::b,0,_=>rfl
 |x::a,y::b,n+1,h=>by show(x,y)::(a.zip b).eraseIdx n=(x,y)::(a.eraseIdx n).zip (b.eraseIdx n);rw[yT a b n (by simpa using h)]
theorem yK{α β:Type}(f:α->β):∀ (l:List α) (n:Nat),(l.eraseIdx n).map f=(l.map f).eraseIdx n
 |[],_=>by simp
 |_::_,0=>rfl
 |x::l,n+1=>by show f x::(l.eraseIdx n).map f=f x::(l.map f).eraseIdx n;rw[yK f l n]
theorem aEU{sd:List Slot}{j:Nat}{z:Slot}{a:BQ}(h:sd[j]? =some z)(ha:a∈iH z):a∈cE sd:=dO.mpr ⟨z,bD h,ha⟩
section
variable {K:aA}{H₀ F F' H H':Hp}{σ:St}{sd:List Slot}{i:Nat}{l:BQ}{ls:List BQ}{dss:List (List D)}{P:AG}{w:AL}{ks:List (List Key)}
theorem StF.popG{o:BZ}(n:Nat)(S:StF K H₀ F H σ sd)(hs:sd[i]? =some (odG P w K l ks ls dss))(nc:∀v,o.data≠ .cell v)(td:TDo P w F l o ((ks.zip (ls.map V.ref)).eraseIdx n)):
  StF K H₀ F (upd H l (exO l o)) σ (sd.set i (odG P w K l (ks.eraseIdx n) (ls.eraseIdx n) (dss.eraseIdx n))):=by
 obtain⟨g1,g2,⟨o',g3,nc',hl,_⟩,g4,g5⟩:=iX S hs;obtain⟨n1,n2⟩:=cF.mp g5
 have sb:∀b,b∈l::ls.eraseIdx n->b∈l::ls:=λb hb=>by
  rcases aQ.mp hb with h|h
  ·exact h▸aH
  ·exact aI _ (jV h)
 refine S.reX (z':=odG P w K l (ks.eraseIdx n) (ls.eraseIdx n) (dss.eraseIdx n)) hs g1 (λb ob hb q=> ?_) (nM S.smp l) (wF (λb hb=>g2 b (sb b hb)) cD nc ?_ ?_ ?_) ?_ λb hb=>.inl (sb b hb)
 ·rw[bO (show b≠l from λz=>hb (z▸aH))];exact q
 ·rw[aFb,aFb,hl]
 ·rw[yK,<-yT _ _ _ (by rw[aB];exact hl)];exact td
 ·refine InD.erase n (g4.mono2 (Same.refl _) λb hb ob q=> ?_);rw[bO (show b≠l from λz=>n1 (z▸hb))];exact q
 ·show(l::ls.eraseIdx n).Nodup;exact cF.mpr ⟨λh=>n1 (jV h),n2.sublist (pQ _ _)⟩
end
open PySem.W (kat_lt kat_kind KatTups KatLex)
noncomputable abbrev Pr2:=List Int×List Int
noncomputable def p2D(x:Pr2):D:=.tup [bG x.1,bG x.2]
theorem aOg(x:Pr2):pl (p2D x)=true:=by show(pl (bG x.1)&&(pl (bG x.2)&&true))=true;rw[qV,qV];rfl
theorem wL:∀a b:List Int,xW (a.map D.int) (b.map D.int)=true
 |[],_=>rfl
 |_::_,[]=>rfl
 |x::a,y::b=>by show(true&&xW (a.map D.int) (b.map D.int))=true;rw[wL a b];rfl
theorem aMk(x y:Pr2):xW [bG x.1,bG x.2] [bG y.1,bG y.2]=true:=by show(xW (x.1.map D.int) (y.1.map D.int)&&(xW (x.2.map D.int) (y.2.map D.int)&&true))=true;rw[wL,wL];rfl
theorem aBq{K:aA}{F:Hp}{x:List Int}{v:V}(h:Rep K F (bG x) v):∃c,v=.ref c/\F c=some (.tup (x.map V.int)):=by simp only[bG,Rep] at h;obtain⟨c,ys,rfl,e,r⟩:=h;have:=(show RepL K F (x.map D.int) ys from r).ints;subst this;exact⟨c,rfl,e⟩
theorem aAv:∀ {x y:List Int},x.map V.int=y.map V.int->x=y
 |[],[],_=>rfl
 |[],_::_,h=>by cases h
 |_::_,[],h=>by cases h
 |a::x,b::y,h=>by
  rw[aX,aX] at h;injection h with h1 h2
  injection h1 with h1
  rw[h1,aAv h2]
theorem aHE{K:aA}{F:Hp}{x:Pr2}{v:V}(h:Rep K F (p2D x) v):∃a c d,v=.ref a/\F a=some (.tup [.ref c,.ref d])/\F c=some (.tup (x.1.map V.int))/\F d=some (.tup (x.2.map V.int)):=by simp only[p2D,Rep] at h;obtain⟨a,ys,rfl,e,r⟩:=h;obtain⟨v1,ys1,rfl,r1,t1⟩:=r.uncons;obtain⟨v2,ys2,rfl,r2,t2⟩:=t1.uncons;simp only[RepL] at t2;subst t2;obtain⟨c,rfl,f1⟩:=aBq r1;obtain⟨d,rfl,f2⟩:=aBq r2;exact⟨a,c,d,rfl,e,f1,f2⟩
theorem aCf{K:aA}{F:Hp}{x y:Pr2}{v:V}(h:Rep K F (p2D x) v)(g:Rep K F (p2D y) v):x=y:=by obtain⟨a,c,d,rfl,e,f1,f2⟩:=aHE h;obtain⟨a',c',d',ea,e',f1',f2'⟩:=aHE g;cases ea;rw[e] at e';cases e';rw[f1] at f1';rw[f2] at f2';have h1:=aAv (HO.tup.inj (cC.inj f1'));have h2:=aAv (HO.tup.inj (cC.inj f2'));exact Prod.ext h1 h2
structure SrtP(A:BR)(ps:List Pr2)(rk:Pr2->Nat):Prop where
 len:ps.length<=10000
 lt:∀x∈ps,∀y∈ps,dlt (p2D x) (p2D y)=decide (rk x<rk y)
 nd:(ps.map rk).Nodup
 un:A.units+8<AQ
theorem aMJ(x:Pr2):dep (p2D x)=2:=by show max (dep (bG x.1)) (max (dep (bG x.2)) 0)+1=2;rw[uY,uY];rfl
noncomputable def srE{α:Type}(hd:α->List D)(sn:α->D)(x:α):D:=.tup [.tup (hd x),sn x]
structure aOZ{α:Type}(A:BR)(K:aA)(hd:α->List D)(sn:α->D)(ps:List α)(rk:α->Nat):Prop where
 len:ps.length<=10000
 lt:∀x∈ps,∀y∈ps,pV [.tup (hd x),sn x] [.tup (hd y),sn y]=decide (rk x<rk y)
 nd:(ps.map rk).Nodup
 un:A.units+8<AQ
 pl:∀x∈ps,plL [.tup (hd x),sn x]=true
 cm:∀x∈ps,∀y∈ps,xW [.tup (hd x),sn x] [.tup (hd y),sn y]=true
 dp:∀x∈ps,jK [.tup (hd x),sn x]<=4
 inj:∀ (F:Hp) (x y:α) (v:V),Rep K F (srE hd sn x) v->Rep K F (srE hd sn y) v->x=y
theorem aDy{K:aA}{F:Hp}{ds:List D}{v:V}(h:Rep K F (.tup ds) v):∃a,v=.ref a:=by simp only[Rep] at h;obtain⟨a,_,rfl,_⟩:=h;exact⟨a,rfl⟩
section
variable {X:Cx}{α:Type}{hd:α->List D}{sn:α->D}
theorem aBK:mH X (.builtin "sorted") (fun vs H Q=>∃ (a:BQ) (xs:List V) (ps:List α) (rk:α→Nat),vs=[.ref a]∧H a=some (.lst xs)∧RepL X.K H (ps.map (srE hd sn)) xs∧aOZ X.A X.K hd sn ps rk∧
  ∀ (D:BQ) (ys:List V) (qs:List α),H D=none->qs.Perm ps->(qs.map rk).Pairwise (·<·)->(∀F,RepL X.K F (ps.map (srE hd sn)) xs->RepL X.K F (qs.map (srE hd sn)) ys)->Q (.ref D) (upd H D (.lst ys))):=by
 intro pins s σ H vs us Q I r h;obtain⟨a,xs,ps,rk,rfl,ha,rl,M,q⟩:=h;obtain⟨u,rfl,rx⟩:=pA r;cases(show u=Value.ref a from rx);obtain⟨z,its,n,rv,hl2,eo⟩:=I.lstM ha
 have tb:∀ {ps:List α}{xs:List V}{us:List BO},RepL X.K H (ps.map (srE hd sn)) xs->Vals xs us->∃T:List (α×BQ),us=(T.map λr=>Value.ref r.2)/\xs=(T.map λr=>V.ref r.2)/\ps=(T.map λr=>r.1)/\∀r∈T,Rep X.K H ((srE hd sn) r.1) (.ref r.2):=by
  intro ps
  induction ps with
  |nil=>intro xs us r rv;rw[fU] at r;simp only[RepL] at r;subst r;cases rv;exact⟨[],rfl,rfl,rfl,λr h=>(cV h).elim⟩
  |cons x ps ih=>
   intro xs us r rv;rw[aX] at r;obtain⟨v,xs,rfl,a,rl⟩:=r.uncons;cases rv with
   |cons ru rv=>
    obtain⟨T,e1,e2,e3,t1⟩:=ih rl rv;obtain⟨b,rfl⟩:=aDy a;cases ru;refine⟨(x,b)::T,by rw[aX,<-e1],by rw[aX,<-e2],by rw[aX,<-e3],λr hr=> ?_⟩
    rcases aQ.mp hr with rfl|hr
    ·exact a
    ·exact t1 r hr
 obtain⟨T,rfl,rfl,rfl,tr⟩:=tb rl rv
 obtain⟨rkW,hrk⟩:∃rkW:BO->Nat,∀r∈T,rkW (.ref r.2)=rk r.1:=by
  classical
  refine⟨λv=>if h:∃r∈T,v=Value.ref r.2 then rk h.choose.1 else 0,λr hr=> ?_⟩;have h:∃r'∈T,Value.ref r.2=Value.ref r'.2:=⟨r,hr,rfl⟩;show(if h:∃r'∈T,Value.ref r.2=Value.ref r'.2 then rk h.choose.1 else 0)=_;rw[dif_pos h]
  have e2:r.2=h.choose.2:=by have:=h.choose_spec.2;injection this
  have r2:=tr _ h.choose_spec.1;rw[<-e2] at r2;rw[M.inj _ _ _ _ r2 (tr r hr)]
 have mT:∀ {r:α×BQ},r∈T->r.1∈T.map λr=>r.1:=λh=>cN (f:=λr:α×BQ=>r.1) h
 have lT:T.length<=10000:=by simpa using M.len
 have mv:∀x∈(T.map λr=>Value.ref r.2),∃r∈T,x=Value.ref r.2:=λx hx=>by obtain⟨r,hr,e⟩:=aO.mp hx;exact⟨r,hr,e.symm⟩
 have ew:∀T':List (α×BQ),(∀r∈T',r∈T)->(T'.map λr=>Value.ref r.2).map rkW=(T'.map λr=>r.1).map rk:=λT' h=>by rw[aV,aV];exact cM λr hr=>hrk r (h r hr)
 have hok':∀t:BP,(∀b o,s.heap.get? b=some o->t.heap.get? b=some o)->HOk X.prog X.w H t.heap:=λt k=>zX (cs:=[]) I.hok (λb u _ g=>k b u g) λb hb=>(cV hb).elim
 refine aBW (l:=a) (vs:=T.map λr=>Value.ref r.2) (κ:=tuples' false) (rk:=rkW) ⟨_,eo,rfl,n,rfl⟩ (by rw[ew T λ_ h=>h];exact M.nd) (by rw[aB];exact lT) (λt kp h2 A' R E' _ hR=> ?_) (λt kp x hx y hy A' R E' hA hR=> ?_) λout p1 p2=> ?_
 ·have ok:=hok' t kp
  have kt:∀T':List (α×BQ),(∀r∈T',r∈T)->∃fs:List BO,KatTups t.heap (T'.map λr=>Value.ref r.2) fs/\fs.length=T'.length/\∀v∈fs,∃c o,v=.ref c/\t.heap.get? c=some o/\o.cls=.type "tuple":=λT'=>by
   induction T' with
   |nil=>exact λ_=>⟨[],.nil,rfl,λv hv=>(cV hv).elim⟩
   |cons r T' ih=>
    intro h;obtain⟨fs,k,l,i⟩:=ih λr hr=>h r (aI _ hr)
    have rr:=tr r (h r aH);obtain⟨b,ys,its,e1,e2,r2,v2,o,g,c,n',hd1⟩:=iS ok rr (show RelV (.ref r.2) (.ref r.2) from rfl);cases e1;cases e2;have r2:RepL X.K H [.tup (hd r.1),sn r.1] ys:=r2;obtain⟨w1,ys1,rfl,q1,t1⟩:=r2.uncons;obtain⟨w2,ys2,rfl,q2,t2⟩:=t1.uncons;simp only[RepL] at t2;subst t2;obtain⟨c1,rfl⟩:=aDy q1;cases v2 with
    |cons ru1 v2=>
     cases ru1;obtain⟨b1,ys1,its1,e3,e4,_,_,o1,g1,cc1,_⟩:=iS ok q1 (show RelV (.ref c1) (.ref c1) from rfl);cases e3;refine⟨.ref c1::fs,KatTups.cons g c hd1 (by simp) k,by rw[bU,bU,l],λv hv=> ?_⟩
     rcases aQ.mp hv with rfl|hv
     ·cases e4;exact⟨_,o1,rfl,g1,cc1⟩
     ·exact i v hv
  obtain⟨fs,k,l,i⟩:=kt T λ_ h=>h
  rw[aB] at h2;refine kat_kind (T:=.type "tuple") k (by omega) (λv hv=> ?_) rfl hR;obtain⟨c,o,rfl,g,e⟩:=i v hv;have:PySem.W.Looks (AE X.prog X.w) t.heap (typeOf (.ref c)) o.cls:=(PySem.W.Looks.ld g).andThen .now;rw[e] at this;exact this
 ·have ok:=hok' t kp;obtain⟨rx,hrx,rfl⟩:=mv x hx;obtain⟨ry,hry,rfl⟩:=mv y hy;obtain⟨b,ys,its,e1,e2,r2,v2,o,g,c,n',hd1⟩:=iS ok (tr rx hrx) (show RelV (.ref rx.2) (.ref rx.2) from rfl);cases e1;cases e2;obtain⟨b',ys',its',e1,e2,r2',v2',o',g',c',n'',hd'⟩:=iS ok (tr ry hry) (show RelV (.ref ry.2) (.ref ry.2) from rfl);cases e1;cases e2;have r2:RepL X.K H [.tup (hd rx.1),sn rx.1] ys:=r2;have r2':RepL X.K H [.tup (hd ry.1),sn ry.1] ys':=r2';have l1:its.length=2:=by rw[<-v2.length,r2.len];rfl
  have l2:its'.length=2:=by rw[<-v2'.length,r2'.len];rfl
  refine kat_lt g hd1 g' hd' (aKi (A:=A') (b:=pV [.tup (hd rx.1),sn rx.1] [.tup (hd ry.1),sn ry.1]) ?_ ?_)
  ·refine aCG ok [.tup (hd rx.1),sn rx.1] (es:=[.tup (hd ry.1),sn ry.1]) ?_ ?_ ?_ r2 r2' v2 v2' ?_ (by simp[l1,l2])
   ·exact M.cm _ (mT hrx) _ (mT hry)
   ·exact M.pl _ (mT hrx)
   ·exact M.pl _ (mT hry)
   ·have:=M.un;have:=M.dp _ (mT hrx);omega
  ·have e:pV [.tup (hd rx.1),sn rx.1] [.tup (hd ry.1),sn ry.1]=decide (rkW (.ref rx.2)<rkW (.ref ry.2)):=by rw[hrk rx hrx,hrk ry hry];exact M.lt _ (mT hrx) _ (mT hry)
   rw[e];exact hR
 ·obtain⟨T',q1,q2⟩:=oC (f:=λr:α×BQ=>Value.ref r.2) (l:=T) (l':=out.toList) p1
  have eo2:out=(T'.map λr=>Value.ref r.2).toArray:=by apply kX.mp;rw[q2]
  rw[q2,ew T' λr hr=>q1.mem_iff.mp hr] at p2;subst eo2;obtain⟨kp,n2,g2⟩:=aGH s.heap (T.map λr=>Value.ref r.2) (T'.map λr=>Value.ref r.2).toArray;have hD:H (s.heap.objs.size+1)=none:=I.hok.fresh (kG _);have lT':T'.length=T.length:=q1.length_eq
  have vv:Vals (T'.map λr=>V.ref r.2) (T'.map λr=>Value.ref r.2):=by
   generalize T'=U
   induction U with
   |nil=>exact .nil
   |cons r U ih=>exact .cons rfl ih
  have I3:Inv X pins σ (upd H (s.heap.objs.size+1) (.lst (T'.map λr=>V.ref r.2))) {s with heap:=sortedAll s.heap (T.map λr=>Value.ref r.2) (T'.map λr=>Value.ref r.2).toArray}:=
   I.laid (t':=s.toks) kp (kG _) ⟨by rw[Ac,aB];omega,_,n2,vv,by simpa[Ab] using g2⟩
  refine⟨.ref (s.heap.objs.size+1),_,I3,rfl,q _ (T'.map λr=>V.ref r.2) (T'.map λr=>r.1) hD (q1.map _) p2 λF rF=> ?_⟩
  have all:∀ {U:List (α×BQ)},RepL X.K F ((U.map λr=>r.1).map (srE hd sn)) (U.map λr=>V.ref r.2)->∀r∈U,Rep X.K F ((srE hd sn) r.1) (.ref r.2):=λ{U}=>by
   induction U with
   |nil=>exact λ_ r hr=>(cV hr).elim
   |cons y U ih=>
    intro h r hr;rw[aX,aX,aX] at h;obtain⟨v,vs,e,a1,a2⟩:=h.uncons;cases e
    rcases aQ.mp hr with rfl|hr
    ·exact a1
    ·exact ih a2 r hr
  have aT:=all rF;have rT:∀r∈T',Rep X.K F ((srE hd sn) r.1) (.ref r.2):=λr hr=>aT r (q1.mem_iff.mp hr)
  clear vv I3 g2 p2 q1 q2 p1 lT' kp
  induction T' with
  |nil=>exact .nil
  |cons r U ih=>exact .cons (rT r aH) (ih λq hq=>rT q (aI _ hq))
end
theorem SrtP.gen{A:BR}{K:aA}{ps:List Pr2}{rk:Pr2→Nat}(M:SrtP A ps rk):aOZ A K (fun x:Pr2=>x.1.map D.int) (fun x=>bG x.2) ps rk:=⟨M.len,M.lt,M.nd,M.un,fun x _=>aOg x,fun x _ y _=>aMk x y,fun x _=>by
 have:=aMJ x;have:jK [bG x.1,bG x.2]+1=2:=this;show jK [bG x.1,bG x.2]<=4
 omega,λF x y v h1 h2=>aCf h1 h2⟩
section
variable {X:Cx}
theorem aCd:mH X (.builtin "sorted") (fun vs H Q=>∃ (a:BQ) (xs:List V) (ps:List Pr2) (rk:Pr2→Nat),vs=[.ref a]∧H a=some (.lst xs)∧RepL X.K H (ps.map p2D) xs∧SrtP X.A ps rk∧
  ∀ (D:BQ) (ys:List V) (qs:List Pr2),H D=none->qs.Perm ps->(qs.map rk).Pairwise (·<·)->(∀F,RepL X.K F (ps.map p2D) xs->RepL X.K F (qs.map p2D) ys)->Q (.ref D) (upd H D (.lst ys))):=by
 intro pins s σ H vs us Q I r h;obtain⟨a,xs,ps,rk,h1,h2,h3,M,q⟩:=h;exact aBK pins s σ H vs us Q I r ⟨a,xs,ps,rk,h1,h2,h3,M.gen,q⟩
end
section
variable {X:Cx}{sd:List Slot}{b:Expr}{pos:Pos}{ks:List (List Key)}{k:List Key}{E:jR}{l:BQ}{ls:List BQ}{dss:List (List D)}{ps:List Pr2}{rk:Pr2->Nat}
theorem aGf(i j n:Nat){x y:Str}{px py p ap cp p2:Pos}(hu:X.A.units+1<AQ)(hg:Gl X "sorted")(hm:X.mg "sorted"=none)(hs:sd[i]? =some (odG X.prog X.w X.K l ks ls dss))(hx:PE X (.Name x px) (lH i))(hb:PEd X sd b (.val (.tup (k.map kD))))(hk:ks[n]? =some k)(hd:dss[n]? =some (ps.map p2D))(M:SrtP X.A ps rk)
  (hN:X.N.Nodup) (hj:X.N[j]? =some y) (hy:Loc X.env.scope y)
  (hE:∀ (l':BQ) (qs:List Pr2),qs.Perm ps->(qs.map rk).Pairwise (·<·)->E.nx ((sd.set i (odG X.prog X.w X.K l (ks.eraseIdx n) (ls.eraseIdx n) (dss.eraseIdx n))).set j (.own l' (qs.map p2D))))
  (hpop:PE X (.Call (.Attribute (.Name x px) "pop" ap) [b] [] cp) (λσ H Q=>lH i σ H λv H1=>(∃l ob,v=.ref l/\H1 l=some (exO l ob)/\ob.ExactDict)/\(oW (wE X b) aFr) σ H1 λxs H2=>aNQ X v xs H2 Q):=by exact aKW zJ aAN PySem.F.type_dict_pop aLK (pv _) (fP gR pa_nil))
  (hst:AD [.Call (.Attribute (.Name x px) "pop" ap) [b] [] cp] X.env=(false,eval (.Call (.Attribute (.Name x px) "pop" ap) [b] [] cp) X.env)::AD [] X.env:=by rfl)
  (hsw:Ak (.Call (.Name "sorted" p) [.Call (.Attribute (.Name x px) "pop" ap) [b] [] cp] [] p2) (some (.Name y py)) pos.line X.env=pure false:=by rfl)
  (hf:X.fn y=true\/X.env.scope.names.lookup y=some .local:=by first|exact .inl rfl|exact .inr rfl|assumption):
  PSd1 X sd (.Assign [.Name y py] (.Call (.Name "sorted" p) [.Call (.Attribute (.Name x px) "pop" ap) [b] [] cp] [] p2) pos) E:=.mk λσ F H S=>
 (qR hN hj hy (rB aCd hg hm boot_sorted (fP hpop pa_nil hst) (by decide) (by decide) hst rfl) hsw hf).to (by
  obtain⟨h1,h2,⟨o,h3,nc,hk2,td⟩,h4,h5⟩:=iX S hs;refine⟨.ref l,h1,⟨l,o,rfl,h3,td.2.2.choose_spec.2.choose_spec.choose_spec.1⟩,(hb σ F H S).imp λv1 H1 ⟨F1,S1,s1,q1⟩=> ?_⟩;obtain⟨g1,g2,⟨o2,g3,nc2,hk3,td2⟩,g4,g5⟩:=iX S1 hs;obtain⟨n1,n2⟩:=cF.mp g5;simp only[ResOk,Rep] at q1;obtain⟨ad,ys,rfl,ha,rl⟩:=q1;rw[oX rl] at ha;have nl:n<ls.length:=by have:=(aN.mp hk).1;omega
  have e3:ls[n]? =some ls[n]:=by simp[nl]
  generalize ls[n]=an at e3;obtain⟨ds,xs,d1,d2,d3⟩:=g4.get e3;rw[hd] at d1;cases d1;have anl:an≠l:=λz=>n1 (z▸bD e3)
  have zg:(ks.zip (ls.map V.ref))[n]? =some (k,V.ref an):=by rw[aAh];exact⟨hk,by rw[bF,e3];rfl⟩
  refine⟨F1,l,ad,k,.ref an,n,o2,ks.zip (ls.map V.ref),rfl,rfl,S1.sub,g3,ha,hu,td2,zg,λo' nc' td'=> ?_⟩;have S2:=S1.popG n hs nc' td';refine⟨an,xs,ps,rk,rfl,by rw[bO anl];exact d2,d3.mono S2.sub,M,λD ys qs hD pm pw hr=> ?_⟩;obtain⟨S3,fp,no⟩:=S2.layO (xs:=ys) hD
  exact⟨_,F1,S3.setO j fp cD (hr F1 d3) no,s1,hE D qs pm pw⟩)
end
theorem InD.snocL{K:aA}{F H:Hp}{a:BQ}{ds:List D}{xs:List V}:∀ {as:List BQ}{dss:List (List D)},InD K F H as dss->H a=some (.lst xs)->RepL K F ds xs->InD K F H (as++[a]) (dss++[ds])
 |[],[],_,e,r=>⟨⟨xs,e,r⟩,trivial⟩
 |[],_::_,h,_,_=>h.elim
 |_::_,[],h,_,_=>h.elim
 |_::_,_::_,h,e,r=>⟨h.1,InD.snocL h.2 e r⟩
section
variable {K:aA}{H₀ F F' H H':Hp}{σ:St}{sd:List Slot}{i:Nat}{l:BQ}{ls:List BQ}{dss:List (List D)}{P:AG}{w:AL}{ks:List (List Key)}
theorem StF.newW{a:BQ}{o:BZ}{k:List Key}{ds:List D}{xs:List V}(S:StF K H₀ F H σ sd)(hs:sd[i]? =some (odG P w K l ks ls dss))(fa:F a=none)(ha:H a=some (.lst xs))(rl:RepL K F ds xs)(na:a∉cE sd)(nc:∀v,o.data≠ .cell v)(td:TDo P w F l o (ks.zip (ls.map V.ref)++[(k,.ref a)])):
  StF K H₀ F (upd H l (exO l o)) σ (sd.set i (odG P w K l (ks++[k]) (ls++[a]) (dss++[ds]))):=by
 obtain⟨g1,g2,⟨o',g3,nc',hl,_⟩,g4,g5⟩:=iX S hs;obtain⟨n1,n2⟩:=cF.mp g5;have ml:∀b∈l::ls,b∈cE sd:=λb hb=>aEU hs hb
 have al:a≠l:=λz=>na (z▸ml l aH)
 have als:a∉ls:=λz=>na (ml a (aI _ z))
 have sp:∀b,b∈l::(ls++[a])->b∈l::ls\/b=a:=λb hb=>by
  rcases aQ.mp hb with h|h
  ·exact .inl (h▸aH)
  ·rcases bC.mp h with h|h
   ·exact .inl (aI _ h)
   ·exact .inr (aJ.mp h)
 refine S.reX (z':=odG P w K l (ks++[k]) (ls++[a]) (dss++[ds])) hs g1 (λb ob hb q=> ?_) (nM S.smp l) (wF (λb hb=> ?_) cD nc (by rw[bB,bB,hl];rfl) ?_ ?_) ?_ λb hb=> ?_
 ·rw[bO (show b≠l from λz=>hb (z▸aH))];exact q
 ·rcases sp b hb with h|rfl
  ·exact g2 b h
  ·exact fa
 ·rw[aP,aX,fU,sV (by rw[aB];exact hl)];exact td
 ·refine InD.snocL (g4.mono2 (Same.refl _) λb hb ob q=> ?_) ?_ rl
  ·rw[bO (show b≠l from λz=>n1 (z▸hb))];exact q
  ·rw[bO al];exact ha
 ·show(l::(ls++[a])).Nodup;refine cF.mpr ⟨λh=> ?_,bJ.mpr ⟨n2,by simp,λb hb c hc e=>als (aJ.mp hc▸e▸hb)⟩⟩
  rcases bC.mp h with h|h
  ·exact n1 h
  ·exact al (aJ.mp h).symm
 ·rcases sp b hb with h|rfl
  ·exact .inl h
  ·exact .inr na
end
section
variable {X:Cx}{sd:List Slot}{e:Expr}{pos:Pos}{ks:List (List Key)}{E:jR}{l:BQ}{ls:List BQ}{dss:List (List D)}{ds:List D}
theorem aGs(i:Nat){x:Str}{p p2 q1 q2 tp:Pos}{c c':Int}{j1 j2 x1:Nat}(hu:X.A.units+1<AQ)(hs:sd[i]? =some (odG X.prog X.w X.K l ks ls dss))(hx:PE X (.Name x p) (lH i))(h:PEd X sd e (.own ds))(hk:([Sum.inl c,Sum.inl c']:List Key)∉ks)(hl:dss.length<=1000)
  (hE:∀a,E.nx (sd.set i (odG X.prog X.w X.K l (ks++[[Sum.inl c,Sum.inl c']]) (ls++[a]) (dss++[ds]))))
  (hb:PE X (.Tuple [.Constant (.int c) j1 q1, .Constant (.int c') j2 q2] x1 tp) (aPm (oW (tC (.int c)) (oW (tC (.int c')) aFr))):=by exact zR (fP pe_int (fP pe_int pa_nil)))
  (hsw:Ak e (some (.Subscript (.Name x p) (.Tuple [.Constant (.int c) j1 q1, .Constant (.int c') j2 q2] x1 tp) p2)) pos.line X.env=pure false:=by rfl):PSd1 X sd (.Assign [.Subscript (.Name x p) (.Tuple [.Constant (.int c) j1 q1, .Constant (.int c') j2 q2] x1 tp) p2] e pos) E:=.mk λσ F H S pins s I=>by
 refine wpAny_Assign_Subscript (thn (h σ F H S pins s I) λr s1 ⟨v,H1,I1,rv,F1,S1,sF1,q1⟩=> ?_) hsw;obtain⟨a,xs,rfl,fa,ha,rl,na⟩:=q1;obtain rfl:r=Value.ref a:=rv;obtain⟨h1,_⟩:=iX S1 hs;refine thn (hx pins s1 σ H1 (λv H2=>v=.ref l/\H2=H1) I1 ⟨.ref l,h1,rfl,rfl⟩) λu s2 ⟨y,H2,I2,ry,e1,e2⟩=> ?_
 subst e1 e2;obtain rfl:u=Value.ref l:=ry;refine thn (hb pins s2 σ H2 (λv H3=>∃ad,v=.ref ad/\H2 ad=none/\H3=upd H2 ad (.tup [.int c,.int c'])) I2 ⟨by show 2<=AM;decide,λad had=>⟨ad,rfl,had,rfl⟩⟩) λiv s3 ⟨y,H3,I3,ry,ad,e1,fad,e3⟩=> ?_
 subst e1 e3;obtain rfl:iv=Value.ref ad:=ry;obtain⟨S3,sF3⟩:=S1.lay (o:=.tup [.int c,.int c']) fad trivial;have ada:a≠ad:=λz=>by rw[z,fad] at ha;cases ha
 have fa3:upd F1 ad (.tup [.int c,.int c']) a=none:=by rw[bO ada];exact fa
 have ha3:upd H2 ad (.tup [.int c,.int c']) a=some (.lst xs):=by rw[bO ada];exact ha
 obtain⟨g1,g2,⟨o,g3,nc,hkl,z,hm,ts,kt,es,ep,t1,t2,t3,t4⟩,g4,g5⟩:=iX S3 hs;have had:upd F1 ad (.tup [.int c,.int c']) ad=some (.tup (([Sum.inl c,Sum.inl c']:List Key).map kV)):=cD;have ho:s3.heap.get? l=some o:=(I3.hok l _ g3).1;have ktH:=kt.keeps λb ys e=>S3.sub _ _ e
 have dd:s3.heap.DictOfH (Ar (eY X.prog X.w)) l ts:=⟨o,es,ep,ho,t1,t2,t3,KT.all I3.hok ktH,t4⟩;have hz:ts.length<=AM:=by rw[<-Paired.length kt];exact z
 have zl:(ks.zip (ls.map V.ref)).length=dss.length:=by rw[lM,aB,<-hkl,pE,hkl,g4.len]
 have vn:kU (ks.zip (ls.map V.ref)) [Sum.inl c,Sum.inl c']=none:=zH hk λ_ z=>z
 have hl2:(aKR (ks.zip (ls.map V.ref)) [Sum.inl c,Sum.inl c'] (.ref a)).length<=AM:=by rw[wX _ vn,bB,zl];have:=fX hl;show dss.length+1<=AM;omega
 refine wpAny_setItem_heap (hsz:=hz) (BN hu) (tJ I3.hok (S3.sub _ _ had)) dd λh' dd' hsm=> ?_
 obtain⟨q,es',ep',hq,u2,u3,u4,_,u5⟩:=dd';have I4:=uS (t':=s3.toks+(Ar (eY X.prog X.w)).draws [Sum.inl c,Sum.inl c']) I3 (ob:=exO l q) (by rw[g3];exact True.intro) hsm ⟨q,hq⟩ (vF hq);have kt':=kt.put [Sum.inl c,Sum.inl c'] had (show RelV (.ref a) (.ref a) from rfl);rw[wX _ vn] at kt' hl2;exact⟨σ,_,I4,_,_,S3.newW (o:=q) (k:=[Sum.inl c,Sum.inl c']) hs fa3 ha3 (rl.mono sF3) na (λv z=>by rw[u3] at z;cases z) ⟨hl2,hm,_,kt',es',ep',u2,u3,u4,u5⟩,sF1.trans sF3,hE a⟩
end
noncomputable def rkK(r:Int×Int):List Key:=[Sum.inl r.1,Sum.inl r.2]
theorem aIO{a b:Int×Int}(h:rkK a=rkK b):a=b:=by
 unfold rkK at h;injection h with h1 h2
 injection h2 with h2 _
 injection h1 with h1
 injection h2 with h2
 exact Prod.ext h1 h2
noncomputable abbrev WtT:=List ((Int×Int)×List Pr2)
structure Wt where
 l:BQ
 ls:List BQ
 T:WtT
noncomputable def wtK(T:WtT):List (List Key):=T.map λt=>rkK t.1
noncomputable def wtD(T:WtT):List (List D):=T.map λt=>t.2.map p2D
noncomputable def wtS(P:AG)(w:AL)(K:aA)(a:Wt):Slot:=odG P w K a.l (wtK a.T) a.ls (wtD a.T)
noncomputable def wtL(P:AG)(w:AL)(K:aA):Lent K:=⟨Wt,Wt.l,λa=>a.l::a.ls,λa=>Gg P w K a.l (wtK a.T) a.ls (wtD a.T),λh=>h.1⟩
theorem aFO(P:AG)(w:AL)(K:aA)(a:Wt)(v:V)(F H:Hp)(b:BQ)(o:HO)(h:(wtL P w K).G a v F H)(hb:b∈(wtL P w K).own a)(e:H b=some o):¬ zU o:=by
 obtain⟨_,⟨ob,g,_⟩,hI⟩:=h
 rcases aQ.mp (show b∈a.l::a.ls from hb) with rfl|hb
 ·rw[g] at e;cases e;exact λz=>z
 ·obtain⟨xs,g2⟩:=InD.of hI b hb;rw[g2] at e;cases e;exact λz=>z
noncomputable def kH:WtT->Int×Int->Pr2->WtT
 |[],r,x=>[(r,[x])]
 |t::T,r,x=>if t.1=r then(t.1,t.2++[x])::T else t::kH T r x
theorem vA{r:Int×Int}(x:Pr2):∀ {T:WtT},rkK r∉wtK T->kH T r x=T++[(r,[x])]
 |[],_=>rfl
 |t::T,h=>by
  have h1:t.1≠r:=λe=>h (by unfold wtK;rw[aX,e];exact aH)
  show(if t.1=r then _ else t::kH T r x)=_;rw[if_neg h1,vA x (T:=T) λz=>h (aI _ z)];rfl
theorem vK{r:Int×Int}(x:Pr2):∀ {T:WtT}{n:Nat}{ds:List D},(wtK T).Nodup->(wtK T)[n]? =some (rkK r)->(wtD T)[n]? =some ds->wtK (kH T r x)=wtK T/\wtD (kH T r x)=(wtD T).set n (ds++[p2D x])
 |[],n,ds,_,h,_=>by simp[wtK] at h
 |t::T,0,ds,nd,h,hd=>by
  have e:t.1=r:=aIO (by simpa[wtK] using h);have e2:t.2.map p2D=ds:=by simpa[wtD] using hd
  have ea:kH (t::T) r x=(t.1,t.2++[x])::T:=if_pos e;rw[ea];refine⟨rfl, ?_⟩;show((t.2++[x]).map p2D)::wtD T=((t.2.map p2D)::wtD T).set 0 _;rw[aP,e2];rfl
 |t::T,n+1,ds,nd,h,hd=>by
  have nd':=cF.mp (show(rkK t.1::wtK T).Nodup from nd);have h':(wtK T)[n]? =some (rkK r):=by simpa[wtK] using h
  have hd':(wtD T)[n]? =some ds:=by simpa[wtD] using hd
  have ne:t.1≠r:=λe=>nd'.1 (e▸bD h')
  have ea:kH (t::T) r x=t::kH T r x:=if_neg ne;obtain⟨k1,k2⟩:=vK x nd'.2 h' hd';rw[ea];refine⟨by show rkK t.1::wtK (kH T r x)=rkK t.1::wtK T;rw[k1], ?_⟩;show t.2.map p2D::wtD (kH T r x)=(t.2.map p2D::wtD T).set (n+1) _;rw[k2];rfl
theorem aJQ{r:Int×Int}(x:Pr2){T:WtT}(nd:(wtK T).Nodup):(wtK (kH T r x)).Nodup:=by
 by_cases h:rkK r∈wtK T
 ·obtain⟨n,hn⟩:=iC h
  have ln:n<T.length:=by have:=(aN.mp hn).1;simpa[wtK] using this
  obtain⟨ds,hd⟩:∃ds,(wtD T)[n]? =some ds:=⟨_,by unfold wtD;rw[bF,cZ ln];rfl⟩;rw[(vK x nd hn hd).1];exact nd
 ·rw[vA x h];unfold wtK;rw[aP];refine bJ.mpr ⟨nd,by simp,λa ha b hb e=>h ?_⟩;have q:b=rkK r:=by simpa using hb
  rw[<-q,<-e];exact ha
noncomputable def tot(T:WtT):Nat:=(T.map λt=>t.2.length+1).sum
theorem aCZ(r:Int×Int)(x:Pr2):∀T:WtT,tot (kH T r x)<=tot T+2
 |[]=>by simp[tot,kH]
 |t::T=>by
  have ih:=aCZ r x T;show tot (if t.1=r then(t.1,t.2++[x])::T else t::kH T r x)<=_
  split
  ·simp[tot];omega
  ·simp[tot] at ih ⊢;omega
theorem aJA(T:WtT):T.length<=tot T:=by
 induction T with
 |nil=>exact aM _
 |cons t T ih=>simp[tot] at ih ⊢;omega
theorem aJa{T:WtT}:∀ds∈wtD T,ds.length<=tot T:=by
 induction T with
 |nil=>exact λds h=>(cV h).elim
 |cons t T ih=>
  intro ds h
  rcases aQ.mp (show ds∈t.2.map p2D::wtD T from h) with rfl|h
  ·rw[aB];simp[tot];omega
  ·have:=ih ds h;simp[tot] at this ⊢;omega
noncomputable def nP(x:List Nat×List Nat):Pr2:=(x.1.map λ(i:Nat)=>(i:Int),x.2.map λ(i:Nat)=>(i:Int))
theorem aNy(x:List Nat×List Nat):p2D (nP x)=.tup [.tup (bY x.1),.tup (bY x.2)]:=by unfold p2D nP bG bY;rw[aV,aV];rfl
noncomputable def lgQ(p:Int×Int)(L:List SK)(b:Int)(r:Int×Int)(row nb:List Nat):Nat->WtT->WtT
 |0,T=>T
 |t+1,T=>if r.1+(L.getD t AR).2<=b then kH (lgQ p L b r row nb t T) (r.1+(L.getD t AR).2,r.2+1) (nP (row++[t],jL (jY p (L.getD t AR).1) nb)) else lgQ p L b r row nb t T
theorem aFx{p:Int×Int}{L:List SK}{b:Int}{r:Int×Int}{row nb:List Nat}{T:WtT}(nd:(wtK T).Nodup):∀t,(wtK (lgQ p L b r row nb t T)).Nodup
 |0=>nd
 |t+1=>by
  unfold lgQ
  split
  ·exact aJQ _ (aFx nd t)
  ·exact aFx nd t
theorem aHz{p:Int×Int}{L:List SK}{b:Int}{r:Int×Int}{row nb:List Nat}{T:WtT}:∀t,tot (lgQ p L b r row nb t T)<=tot T+2*t
 |0=>aM _
 |t+1=>by
  have ih:=aHz (p:=p) (L:=L) (b:=b) (r:=r) (row:=row) (nb:=nb) (T:=T) t;unfold lgQ
  split
  ·have:=aCZ (r.1+(L.getD t AR).2,r.2+1) (nP (row++[t],jL (jY p (L.getD t AR).1) nb)) (lgQ p L b r row nb t T);omega
  ·omega
def aPi(a:Wt)(ds:List D)(post:Wt->Prop):Prop:=∃p L b r row nb,p∈bX/\L.length<=100/\NOk p nb/\row.length<=400/\(wtK a.T).Nodup/\tot a.T+2*L.length<=900/\ds=[.lst (L.map (mvD p)),.int b,.tup [.int r.1,.int r.2],.tup (bY row),.tup (bY nb)]/\post=λa'=>a'.l=a.l/\a'.T=lgQ p L b r row nb L.length a.T
noncomputable def unP(y:Pr2):List Nat×List Nat:=(y.1.map qT,y.2.map qT)
theorem aCQ(x:List Nat×List Nat):unP (nP x)=x:=by
 have g:∀l:List Nat,(l.map λ(i:Nat)=>(i:Int)).map qT=l:=λl=>by rw[aV];exact(cM λi _=>dE i).trans (jG l)
 unfold unP nP;exact Prod.ext (g x.1) (g x.2)
structure FdS where
 T:WtT
 kn:List (List Nat)
 fd:List (Int×List Nat×List Nat)
noncomputable def fdI(p:Int×Int)(L:List SK)(b:Int)(r:Int×Int)(S:FdS)(x:List Nat×List Nat):FdS:=if x.2∈S.kn then S else⟨lgQ p L b r x.1 x.2 L.length S.T,S.kn++[x.2],S.fd++[(r.1,x.1,x.2)]⟩
noncomputable def fdP(p:Int×Int)(L:List SK)(b:Int)(r:Int×Int)(S:FdS)(xs:List Pr2):FdS:=xs.foldl (λS y=>fdI p L b r S (unP y)) S
theorem wR(p:Int×Int)(L:List SK)(b:Int)(r:Int×Int)(S:FdS)(xs:List Pr2)(y:Pr2):fdP p L b r S (xs++[y])=fdI p L b r (fdP p L b r S xs) (unP y):=by unfold fdP;rw[nN];rfl
structure aNL(S:FdS):Prop where
 nk:(wtK S.T).Nodup
 kn:S.kn=S.fd.map λe=>e.2.2
 nd:S.kn.Nodup
theorem aMp{p:Int×Int}{L:List SK}{b:Int}{r:Int×Int}{S:FdS}(h:aNL S)(x:List Nat×List Nat):aNL (fdI p L b r S x):=by
 unfold fdI
 split
 ·exact h
 ·rename_i q;refine⟨aFx h.nk _, ?_,bJ.mpr ⟨h.nd,by simp,λa ha c hc e=>q ?_⟩⟩
  ·show S.kn++[x.2]=(S.fd++[(r.1,x.1,x.2)]).map _;rw[aP,<-h.kn];rfl
  ·have hc:c=x.2:=by simpa using hc
   rw[<-hc,<-e];exact ha
def rlt(r s:Int×Int):Prop:=r.1<s.1\/(r.1=s.1/\r.2<s.2)
instance (r s:Int×Int):Decidable (rlt r s):=inferInstanceAs (Decidable (_\/_))
noncomputable def rkD(r:Int×Int):D:=.tup [.int r.1,.int r.2]
theorem aIe(r s:Int×Int):dlt (rkD r) (rkD s)=decide (rlt r s):=by
 have e:dlt (rkD r) (rkD s)=(if deq (.int r.1) (.int s.1)=true then(if deq (.int r.2) (.int s.2)=true then false else decide (r.2<s.2)) else decide (r.1<s.1)):=rfl;have d:∀a b:Int,deq (.int a) (.int b)=decide (a=b):=λa b=>rfl
 rw[e,d,d];unfold rlt
 by_cases h1:r.1=s.1
 ·by_cases h2:r.2=s.2
  ·simp[h1,h2]
  ·simp[h1,h2]
 ·have:¬ (r.1=s.1/\r.2<s.2):=λz=>h1 z.1
  simp[h1]
theorem uM(bt:Nat->Nat->Bool):∀k,Ae bt k<=k
 |0=>aM _
 |k+1=>by
  show(if bt (k+1) (Ae bt k)=true then k+1 else Ae bt k)<=k+1
  split
  ·exact aM _
  ·exact Nat.le_succ_of_le (uM bt k)
theorem xE(rs:List (Int×Int)):∀k,k<rs.length->∀j,j<=k->¬ rlt (rs.getD j (0,0)) (rs.getD (Ae (λi k=>decide (rlt (rs.getD i (0,0)) (rs.getD k (0,0)))) k) (0,0))
 |0,_,j,hj=>by
  have:j=0:=by omega
  subst this;show ¬ rlt _ (rs.getD 0 (0,0));unfold rlt;omega
 |k+1,hk,j,hj=>by
  have ih:=xE rs k (by omega);generalize hb:Ae (λi k=>decide (rlt (rs.getD i (0,0)) (rs.getD k (0,0)))) k=bk at ih
  have e:Ae (λi k=>decide (rlt (rs.getD i (0,0)) (rs.getD k (0,0)))) (k+1)=if decide (rlt (rs.getD (k+1) (0,0)) (rs.getD bk (0,0)))=true then k+1 else bk:=by rw[<-hb];rfl
  rw[e]
  by_cases q:rlt (rs.getD (k+1) (0,0)) (rs.getD bk (0,0))
  ·rw[if_pos (decide_eq_true q)]
   by_cases hjk:j=k+1
   ·subst hjk;unfold rlt;omega
   ·have:=ih j (by omega);unfold rlt at *;omega
  ·rw[if_neg (by rw[decide_eq_false q];decide)]
   by_cases hjk:j=k+1
   ·subst hjk;exact q
   ·exact ih j (by omega)
theorem qL{bt bt':Nat->Nat->Bool}:∀k,(∀i j,i<=k->j<=k->bt i j=bt' i j)->Ae bt k=Ae bt' k
 |0,_=>rfl
 |k+1,h=>by
  have ih:=qL k λi j hi hj=>h i j (by omega) (by omega)
  show(if bt (k+1) (Ae bt k)=true then k+1 else Ae bt k)=(if bt' (k+1) (Ae bt' k)=true then k+1 else Ae bt' k);have:=uM bt' k;rw[ih,h (k+1) (Ae bt' k) (aM _) (by omega)]
theorem aMv{X:Cx}(hu:X.A.units+4<AQ){T:WtT}(hne:T≠[]):aIA X ((wtK T).map lV)/\∃t:(Int×Int)×List Pr2,T[kI ((wtK T).map lV)]? =some t/\((wtK T).map lV)[kI ((wtK T).map lV)]? =some (rkD t.1)/\(wtK T)[kI ((wtK T).map lV)]? =some (rkK t.1)/\(wtD T)[kI ((wtK T).map lV)]? =some (t.2.map p2D)/\∀s∈T,¬ rlt s.1 t.1:=by
 have l0:0<T.length:=gP.mpr hne
 have em:(wtK T).map lV=T.map λt=>rkD t.1:=by unfold wtK;rw[aV];rfl
 have ln:((wtK T).map lV).length=T.length:=by rw[em,aB]
 have mem:∀d∈(wtK T).map lV,∃r,d=rkD r:=λd hd=>by rw[em] at hd;obtain⟨t,_,rfl⟩:=aO.mp hd;exact⟨t.1,rfl⟩
 have gd:∀i,i<T.length->((wtK T).map lV).getD i .non=rkD ((T.map (·.1)).getD i (0,0)):=λi hi=>by rw[em];simp[bR,hi]
 have eb:kI ((wtK T).map lV)=Ae (λi k=>decide (rlt ((T.map (·.1)).getD i (0,0)) ((T.map (·.1)).getD k (0,0)))) (T.length-1):=by unfold kI;rw[ln];exact qL _ λi j hi hj=>by rw[gd i (by omega),gd j (by omega),aIe]
 have bl:=uM (λi k=>decide (rlt ((T.map (·.1)).getD i (0,0)) ((T.map (·.1)).getD k (0,0)))) (T.length-1);have bm:=xE (T.map (·.1)) (T.length-1) (by rw[aB];omega);rw[<-eb] at bl bm;generalize kI ((wtK T).map lV)=n at bl bm;have hn:n<T.length:=by omega
 have hT:T[n]? =some T[n]:=cZ hn;refine⟨⟨by rw[ln];exact l0,λd hd d2 hd2=> ?_,λd hd=> ?_,λd hd=> ?_⟩,T[n],hT, ?_, ?_, ?_,λs hs=> ?_⟩
 ·obtain⟨r,rfl⟩:=mem d hd;obtain⟨r2,rfl⟩:=mem d2 hd2;rfl
 ·obtain⟨r,rfl⟩:=mem d hd;rfl
 ·obtain⟨r,rfl⟩:=mem d hd;show X.A.units+1+1<AQ;omega
 ·rw[em,bF,hT];rfl
 ·unfold wtK;rw[bF,hT];rfl
 ·unfold wtD;rw[bF,hT];rfl
 ·obtain⟨j,hj⟩:=iC hs;have lj:j<T.length:=(aN.mp hj).1;have:=bm j (by omega);have e1:(T.map (·.1)).getD j (0,0)=s.1:=by simp[bR,hj]
  have e2:(T.map (·.1)).getD n (0,0)=T[n].1:=by simp[bR,hn]
  rw[e1,e2] at this;exact this
noncomputable def llt:List Int->List Int->Bool
 |[],[]=>false
 |[],_::_=>true
 |_::_,[]=>false
 |x::a,y::b=>if x=y then llt a b else decide (x<y)
theorem aIE:∀a b:List Int,pV (a.map D.int) (b.map D.int)=llt a b
 |[],[]=>rfl
 |[],_::_=>rfl
 |_::_,[]=>rfl
 |x::a,y::b=>by
  have e:pV ((x::a).map D.int) ((y::b).map D.int)=if decide (x=y)=true then pV (a.map D.int) (b.map D.int) else decide (x<y):=rfl
  rw[e,aIE a b];show _=if x=y then llt a b else decide (x<y)
  by_cases h:x=y
  ·rw[if_pos (decide_eq_true h),if_pos h]
  ·rw[if_neg (by rw[decide_eq_false h];decide),if_neg h]
theorem pK:∀a:List Int,llt a a=false
 |[]=>rfl
 |x::a=>by show(if x=x then llt a a else decide (x<x))=false;rw[if_pos rfl];exact pK a
theorem aAy:∀a b:List Int,a≠b->llt a b=true\/llt b a=true
 |[],[],h=>absurd rfl h
 |[],_::_,_=>.inl rfl
 |_::_,[],_=>.inr rfl
 |x::a,y::b,h=>by
  show(if x=y then llt a b else decide (x<y))=true\/(if y=x then llt b a else decide (y<x))=true
  by_cases e:x=y
  ·subst e;rw[if_pos rfl,if_pos rfl];exact aAy a b λz=>h (by rw[z])
  ·rw[if_neg e,if_neg (λz=>e z.symm),decide_eq_true_iff,decide_eq_true_iff];omega
theorem vZ:∀a b c:List Int,llt a b=true->llt b c=true->llt a c=true
 |[],[],_,h,_=>by cases h
 |[],_::_,[],_,h=>by cases h
 |[],_::_,_::_,_,_=>rfl
 |_::_,[],_,h,_=>by cases h
 |_::_,_::_,[],_,h=>by cases h
 |x::a,y::b,z::c,h1,h2=>by
  have h1:(if x=y then llt a b else decide (x<y))=true:=h1;have h2:(if y=z then llt b c else decide (y<z))=true:=h2;show(if x=z then llt a c else decide (x<z))=true
  by_cases e1:x=y
  ·subst e1;rw[if_pos rfl] at h1
   by_cases e2:x=z
   ·subst e2;rw[if_pos rfl] at h2 ⊢;exact vZ a b c h1 h2
   ·rw[if_neg e2] at h2 ⊢;exact h2
  ·rw[if_neg e1] at h1;have h1:=of_decide_eq_true h1
   by_cases e2:y=z
   ·subst e2;rw[if_neg e1];exact decide_eq_true h1
   ·rw[if_neg e2] at h2;have h2:=of_decide_eq_true h2;rw[if_neg (by omega)];exact decide_eq_true (by omega)
noncomputable def plt(x y:Pr2):Bool:=if x.1=y.1 then llt x.2 y.2 else llt x.1 y.1
theorem aLi(a b:List Int):deq (bG a) (bG b)=decide (a=b):=aBm a b
theorem aOi(x y:Pr2):dlt (p2D x) (p2D y)=plt x y:=by
 have e:dlt (p2D x) (p2D y)=if deq (bG x.1) (bG y.1)=true then(if deq (bG x.2) (bG y.2)=true then false else pV (x.2.map D.int) (y.2.map D.int)) else pV (x.1.map D.int) (y.1.map D.int):=rfl
 rw[e,aLi,aLi,aIE,aIE];unfold plt
 by_cases h:x.1=y.1
 ·rw[if_pos (decide_eq_true h),if_pos h]
  by_cases h2:x.2=y.2
  ·rw[if_pos (decide_eq_true h2),h2,pK]
  ·rw[if_neg (by rw[decide_eq_false h2];decide)]
 ·rw[if_neg (by rw[decide_eq_false h];decide),if_neg h]
theorem aKl(x:Pr2):plt x x=false:=by unfold plt;rw[if_pos rfl];exact pK _
theorem aAz{x y:Pr2}(h:x≠y):plt x y=true\/plt y x=true:=by
 unfold plt
 by_cases e:x.1=y.1
 ·rw[if_pos e,if_pos e.symm];exact aAy _ _ λz=>h (Prod.ext e z)
 ·rw[if_neg e,if_neg λz=>e z.symm];exact aAy _ _ e
theorem aIb{x y z:Pr2}(h1:plt x y=true)(h2:plt y z=true):plt x z=true:=by
 unfold plt at *
 by_cases e1:x.1=y.1
 ·rw[if_pos e1] at h1
  by_cases e2:y.1=z.1
  ·rw[if_pos e2] at h2;rw[if_pos (e1.trans e2)];exact vZ _ _ _ h1 h2
  ·rw[if_neg e2] at h2;rw[e1,if_neg e2];exact h2
 ·rw[if_neg e1] at h1
  by_cases e2:y.1=z.1
  ·rw[<-e2,if_neg e1];exact h1
  ·rw[if_neg e2] at h2
   by_cases e3:x.1=z.1
   ·have:=vZ _ _ _ h1 h2;rw[e3,pK] at this;cases this
   ·rw[if_neg e3];exact vZ _ _ _ h1 h2
noncomputable def rkP(ps:List Pr2)(x:Pr2):Nat:=(ps.filter λy=>plt y x).length
theorem vW{ps:List Pr2}{x y:Pr2}(hx:x∈ps)(h:plt x y=true):rkP ps x<rkP ps y:=by
 unfold rkP
 have e:ps.filter (λz=>plt z x)=(ps.filter λz=>plt z y).filter λz=>plt z x:=by
  rw[List.filter_filter];refine aIj λz _=> ?_
  cases q:plt z x with
  |false=>rfl
  |true=>rw[aIb q h];rfl
 rw[e];refine List.length_filter_lt_length_iff_exists.mpr ⟨x,fG.mpr ⟨hx,h⟩, ?_⟩;rw[aKl];decide
theorem aMS{A:BR}{ps:List Pr2}(nd:ps.Nodup)(hl:ps.length<=10000)(hu:A.units+8<AQ):SrtP A ps (rkP ps):=by
 have key:∀x∈ps,∀y∈ps,x≠y->rkP ps x≠rkP ps y:=λx hx y hy ne=>by
  rcases aAz ne with h|h
  ·exact bH (vW hx h)
  ·exact gG (vW hy h)
 refine⟨hl,λx hx y hy=> ?_, ?_,hu⟩
 ·rw[aOi];cases h:plt x y with
  |true=>exact(decide_eq_true (vW hx h)).symm
  |false=>
   refine(decide_eq_false λq=> ?_).symm
   by_cases e:x=y
   ·rw[e] at q;omega
   ·rcases aAz e with z|z
    ·rw[h] at z;cases z
    ·have:=vW hy z;omega
 ·unfold List.Nodup;rw[dQ];exact List.Pairwise.imp_of_mem (λ{a b} ha hb h=>key a ha b hb h) nd
noncomputable def aIt(x:Pr2):List Pr2->List Pr2
 |[]=>[x]
 |y::l=>if plt x y then x::y::l else y::aIt x l
noncomputable def jH:List Pr2->List Pr2
 |[]=>[]
 |x::l=>aIt x (jH l)
theorem tN(x:Pr2):∀l,(aIt x l).Perm (x::l)
 |[]=>.refl _
 |y::l=>by
  show(if plt x y then x::y::l else y::aIt x l).Perm _
  split
  ·exact .refl _
  ·exact((tN x l).cons y).trans (.swap x y l)
theorem iQ:∀l,(jH l).Perm l
 |[]=>.refl _
 |x::l=>(tN x (jH l)).trans ((iQ l).cons x)
theorem aDT{x:Pr2}:∀ {l:List Pr2},x∉l->l.Pairwise (λa b=>plt a b=true)->(aIt x l).Pairwise (λa b=>plt a b=true)
 |[],_,_=>by simp[aIt]
 |y::l,h,p=>by
  obtain⟨p1,p2⟩:=fH.mp p;show(if plt x y then x::y::l else y::aIt x l).Pairwise _
  by_cases q:plt x y=true
  ·rw[if_pos q];refine fH.mpr ⟨λz hz=> ?_,p⟩
   rcases aQ.mp hz with rfl|hz
   ·exact q
   ·exact aIb q (p1 z hz)
  ·rw[if_neg q];refine fH.mpr ⟨λz hz=> ?_,aDT (λz=>h (aI _ z)) p2⟩
   rcases aQ.mp ((tN x l).mem_iff.mp hz) with rfl|hz
   ·rcases aAz (x:=z) (y:=y) (λe=>h (e▸aH)) with w|w
    ·exact absurd w q
    ·exact w
   ·exact p1 z hz
theorem aAx:∀ {l:List Pr2},l.Nodup->(jH l).Pairwise (λa b=>plt a b=true)
 |[],_=>List.Pairwise.nil
 |x::l,h=>by obtain⟨h1,h2⟩:=cF.mp h;exact aDT (λz=>h1 ((iQ l).mem_iff.mp z)) (aAx h2)
theorem aIN{ps qs:List Pr2}(nd:ps.Nodup)(hp:qs.Perm ps)(hs:(qs.map (rkP ps)).Pairwise (·<·)):qs=jH ps:=by refine List.Perm.eq_of_pairwise (le:=λx y=>rkP ps x<rkP ps y) (λx y _ _ h1 h2=>by omega) (by rw[dQ] at hs;exact hs) ?_ (hp.trans (iQ ps).symm);exact List.Pairwise.imp_of_mem (λ{a b} ha _ h=>vW ((iQ ps).mem_iff.mp ha) h) (aAx nd)
noncomputable def fY(T:WtT):Nat:=kI ((wtK T).map lV)
noncomputable def fdT(p:Int×Int)(L:List SK)(b:Int)(S:FdS):FdS:=match S.T[fY S.T]? with
 |none=>S
 |some t=>fdP p L b t.1 {S with T:=S.T.eraseIdx (fY S.T)} (jH t.2)
noncomputable def lN(p:Int×Int)(L:List SK)(b:Int):Nat->FdS->FdS
 |0,S=>S
 |k+1,S=>if S.T=[] then S else lN p L b k (fdT p L b S)
noncomputable def inR(row:List Nat):List Int:=row.map λ(i:Nat)=>(i:Int)
theorem aJn{a b:List Nat}(h:inR a=inR b):a=b:=by
 have:(inR a).map qT=(inR b).map qT:=by rw[h]
 have g:∀l:List Nat,(inR l).map qT=l:=λl=>by unfold inR;rw[aV];exact(cM λi _=>dE i).trans (jG l)
 rwa[g,g] at this
noncomputable def rwP(y:Pr2):List Nat:=(unP y).1
noncomputable def itP(p:Int×Int)(L:List SK)(row:List Nat):Pr2:=nP (row,nrQ p L row)
theorem qA(p:Int×Int)(L:List SK)(row:List Nat):rwP (itP p L row)=row:=by unfold rwP itP;rw[aCQ]
theorem aKZ(p:Int×Int)(L:List SK)(row:List Nat):unP (itP p L row)=(row,nrQ p L row):=aCQ _
noncomputable def rkR(L:List SK)(row:List Nat):Int×Int:=(S45.prQ (prK L) row,(row.length:Int))
def klt(L:List SK)(a c:List Nat):Prop:=rlt (rkR L a) (rkR L c)\/(rkR L a=rkR L c/\llt (inR a) (inR c)=true)
def kle(L:List SK)(a c:List Nat):Prop:=a=c\/klt L a c
theorem aMg{a b c:Int×Int}(h:rlt a b)(h2:rlt b c):rlt a c:=by unfold rlt at *;omega
theorem aJj{a b:Int×Int}(h:a≠b)(h2:¬ rlt b a):rlt a b:=by
 obtain⟨a1,a2⟩:=a;obtain⟨b1,b2⟩:=b;unfold rlt at *;have:¬ (a1=b1/\a2=b2):=λz=>h (by rw[z.1,z.2])
 simp only at *;omega
theorem aJT(L:List SK)(a:List Nat):¬ klt L a a:=by
 rintro(h|⟨_,h⟩)
 ·unfold rlt at h;omega
 ·rw[pK] at h;cases h
theorem aHD{L:List SK}{a b c:List Nat}(h:klt L a b)(h2:klt L b c):klt L a c:=by
 rcases h with h|⟨e,h⟩<;>rcases h2 with h2|⟨e2,h2⟩
 ·exact .inl (aMg h h2)
 ·exact .inl (e2▸h)
 ·exact .inl (e▸h2)
 ·exact .inr ⟨e.trans e2,vZ _ _ _ h h2⟩
theorem aMW{L:List SK}{a b c:List Nat}(h:kle L a b)(h2:kle L b c):kle L a c:=by
 rcases h with rfl|h
 ·exact h2
 ·rcases h2 with rfl|h2
  ·exact .inr h
  ·exact .inr (aHD h h2)
theorem aBE{x:Int}:∀ {a b:List Int},a.length=b.length->llt a b=true->llt (a++[x]) (b++[x])=true
 |[],[],_,h=>by cases h
 |[],_::_,h,_=>by cases h
 |_::_,[],h,_=>by cases h
 |u::a,v::b,hl,h=>by
  have h:(if u=v then llt a b else decide (u<v))=true:=h;show(if u=v then llt (a++[x]) (b++[x]) else decide (u<v))=true
  by_cases e:u=v
  ·rw[if_pos e] at h ⊢;exact aBE (by simpa using hl) h
  ·rw[if_neg e] at h ⊢;exact h
theorem pN(L:List SK)(a:List Nat)(k:Nat):rkR L (a++[k])=((rkR L a).1+prK L k,(rkR L a).2+1):=by unfold rkR;rw[S45.pr_snoc,bB];rfl
theorem aFN{L:List SK}{a c:List Nat}(k:Nat)(h:kle L a c):kle L (a++[k]) (c++[k]):=by
 rcases h with rfl|h|⟨e,h⟩
 ·exact .inl rfl
 ·refine .inr (.inl ?_);rw[pN,pN];unfold rlt at *;simp only;omega
 ·refine .inr (.inr ⟨by rw[pN,pN,e], ?_⟩)
  have el:a.length=c.length:=by have:=congrArg Prod.snd e;have:(a.length:Int)=(c.length:Int):=this;omega
  show llt ((a++[k]).map λ(i:Nat)=>(i:Int)) ((c++[k]).map λ(i:Nat)=>(i:Int))=true;rw[aP,aP];exact aBE (by rw[aB,aB];exact el) h
noncomputable def wrR(T:WtT):List (List Nat):=T.flatMap λt=>t.2.map rwP
theorem wrR_mem{T:WtT}{row:List Nat}:row∈wrR T↔∃t∈T,∃y∈t.2,rwP y=row:=by
 unfold wrR;rw[dO]
 constructor
 ·rintro⟨t,ht,h⟩;obtain⟨y,hy,e⟩:=aO.mp h;exact⟨t,ht,y,hy,e⟩
 ·rintro⟨t,ht,y,hy,e⟩;exact⟨t,ht,aO.mpr ⟨y,hy,e⟩⟩
theorem yR(r:Int×Int)(x:Pr2):∀T:WtT,(wrR (kH T r x)).Perm (rwP x::wrR T)
 |[]=>.refl _
 |t::T=>by
  show(wrR (if t.1=r then(t.1,t.2++[x])::T else t::kH T r x)).Perm _
  split
  ·show((t.2++[x]).map rwP++wrR T).Perm (rwP x::(t.2.map rwP++wrR T));rw[aP,dY];exact oM
  ·show(t.2.map rwP++wrR (kH T r x)).Perm (rwP x::(t.2.map rwP++wrR T));exact((yR r x T).append_left _).trans oM
theorem aBr{r:Int×Int}{x:Pr2}:∀ {T:WtT}{t':(Int×Int)×List Pr2},(∀t∈T,t.2≠[])->t'∈kH T r x->t'.2≠[]/\∀y∈t'.2,(y=x/\t'.1=r)\/∃t∈T,t.1=t'.1/\y∈t.2
 |[],t',_,h=>by
  have:t'=(r,[x]):=by simpa[kH] using h
  subst this;exact⟨by simp,λy hy=>.inl ⟨by simpa using hy,rfl⟩⟩
 |t::T,t',hn,h=>by
  have h:t'∈(if t.1=r then(t.1,t.2++[x])::T else t::kH T r x):=h
  by_cases e:t.1=r
  ·rw[if_pos e] at h
   rcases aQ.mp h with rfl|h
   ·refine⟨by simp,λy hy=> ?_⟩
    rcases bC.mp hy with hy|hy
    ·exact .inr ⟨t,aH,rfl,hy⟩
    ·exact .inl ⟨by simpa using hy,e⟩
   ·exact⟨hn _ (aI _ h),λy hy=>.inr ⟨t',aI _ h,rfl,hy⟩⟩
  ·rw[if_neg e] at h
   rcases aQ.mp h with rfl|h
   ·exact⟨hn _ aH,λy hy=>.inr ⟨t',aH,rfl,hy⟩⟩
   ·obtain⟨h1,h2⟩:=aBr (λz hz=>hn z (aI _ hz)) h;exact⟨h1,λy hy=>(h2 y hy).imp id λ⟨z,hz,q⟩=>⟨z,aI _ hz,q⟩⟩
section
variable {p:Int×Int}{L:List SK}{b:Int}{r:Int×Int}{row nb:List Nat}{T:WtT}
noncomputable def chs(L:List SK)(b:Int)(r:Int×Int)(row:List Nat)(n:Nat):List (List Nat):=((bK n).filter λk=>decide (r.1+prK L k<=b)).map λk=>row++[k]
theorem chs_mem{n:Nat}{c:List Nat}:c∈chs L b r row n↔∃k,k<n/\r.1+prK L k<=b/\c=row++[k]:=by
 unfold chs;rw[aO]
 constructor
 ·rintro⟨k,hk,rfl⟩;obtain⟨h1,h2⟩:=fG.mp hk;exact⟨k,bP.mp h1,of_decide_eq_true h2,rfl⟩
 ·rintro⟨k,h1,h2,rfl⟩;exact⟨k,fG.mpr ⟨bP.mpr h1,decide_eq_true h2⟩,rfl⟩
theorem aMR(n:Nat):(chs L b r row n).Nodup:=by unfold chs List.Nodup;rw[dQ];refine List.Pairwise.imp (λ{a c} h e=>h ?_) (List.Pairwise.filter _ (lA (n:=n)));simpa using List.append_cancel_left e
theorem aDQ:∀n:Nat,(wrR (lgQ p L b r row nb n T)).Perm (chs L b r row n++wrR T)
 |0=>.refl _
 |n+1=>by
  have ih:=aDQ n
  have ec:chs L b r row (n+1)=chs L b r row n++(if r.1+prK L n<=b then[row++[n]] else[]):=by
   unfold chs;rw[aKK,aGT,aP];congr 1
   by_cases h:r.1+prK L n<=b
   ·simp[h]
   ·simp[h]
  rw[ec];show(wrR (if r.1+(L.getD n AR).2<=b then kH _ _ _ else _)).Perm _
  by_cases h:r.1+prK L n<=b
  ·rw[if_pos h,if_pos (show r.1+(L.getD n AR).2<=b from h)];refine(yR _ _ _).trans ?_
   have e:rwP (nP (row++[n],jL (jY p (L.getD n AR).1) nb))=row++[n]:=by unfold rwP;rw[aCQ]
   rw[e,dY];exact(ih.cons _).trans oM.symm
  ·rw[if_neg h,if_neg (show ¬ r.1+(L.getD n AR).2<=b from h),dM];exact ih
theorem aAR:∀ (n:Nat) {t':(Int×Int)×List Pr2},(∀t∈T,t.2≠[])->t'∈lgQ p L b r row nb n T->t'.2≠[]/\∀y∈t'.2,(∃k,k<n/\r.1+prK L k<=b/\t'.1=(r.1+prK L k,r.2+1)/\y=nP (row++[k],jL (jY p (L.getD k AR).1) nb))\/∃t∈T,t.1=t'.1/\y∈t.2
 |0,t',hn,h=>⟨hn t' h,λy hy=>.inr ⟨t',h,rfl,hy⟩⟩
 |n+1,t',hn,h=>by
  have h:t'∈(if r.1+(L.getD n AR).2<=b then kH (lgQ p L b r row nb n T) (r.1+(L.getD n AR).2,r.2+1) (nP (row++[n],jL (jY p (L.getD n AR).1) nb)) else lgQ p L b r row nb n T):=h;have old:∀t∈lgQ p L b r row nb n T,t.2≠[]:=λt ht=>(aAR n hn ht).1
  by_cases q:r.1+(L.getD n AR).2<=b
  ·rw[if_pos q] at h;obtain⟨h1,h2⟩:=aBr old h;refine⟨h1,λy hy=> ?_⟩
   rcases h2 y hy with⟨e1,e2⟩|⟨t,ht,e,hy2⟩
   ·exact .inl ⟨n,by omega,q,e2,e1⟩
   ·rcases(aAR n hn ht).2 y hy2 with⟨k,k1,k2,k3,k4⟩|⟨s,s1,s2,s3⟩
    ·exact .inl ⟨k,by omega,k2,e▸k3,k4⟩
    ·exact .inr ⟨s,s1,s2.trans e,s3⟩
  ·rw[if_neg q] at h;obtain⟨h1,h2⟩:=aAR n hn h;exact⟨h1,λy hy=>(h2 y hy).imp (λ⟨k,k1,k2⟩=>⟨k,by omega,k2⟩) id⟩
end
theorem aHT:∀ {T:WtT},(∀t∈T,t.2≠[])->tot T<=2*(wrR T).length
 |[],_=>aM _
 |t::T,h=>by
  have ih:=aHT (T:=T) λz hz=>h z (aI _ hz)
  have h1:0<t.2.length:=gP.mpr (h t aH);have e1:tot (t::T)=(t.2.length+1)+tot T:=by simp[tot]
  have e2:(wrR (t::T)).length=t.2.length+(wrR T).length:=by show(t.2.map rwP++wrR T).length=_;rw[bB,aB]
  omega
structure vE(L:List SK)(b:Int)(U:List (List Nat)):Prop where
 len:U.length<=400
 rl:∀row∈U,row.length<=300
 all:∀row,gL L row->S45.prQ (prK L) row<=b->row∈U
def Cov(p:Int×Int)(L:List SK)(S:FdS)(rest:List Pr2)(row:List Nat):Prop:=row∈wrR S.T\/row∈rest.map rwP\/∃e∈S.fd,e.2.2=nrQ p L row/\kle L e.2.1 row
structure Wk(p:Int×Int)(L:List SK)(b:Int)(dn:List (List Nat))(r:Int×Int)(rest:List Pr2)(S:FdS):Prop where
 ok:aNL S
 ne:∀t∈S.T,t.2≠[]
 wt:∀t∈S.T,∀y∈t.2,∃row,y=itP p L row/\gL L row/\t.1=rkR L row/\t.1.1<=b
 rs:∀y∈rest,∃row,y=itP p L row/\gL L row/\r=rkR L row/\r.1<=b
 up:rest.Pairwise λx y=>plt x y=true
 gt:rest≠[]->∀t∈S.T,rlt r t.1
 nd:(dn++rest.map rwP++wrR S.T).Nodup
 fd:∀e∈S.fd,e.2.1∈dn/\gL L e.2.1/\e.1=S45.prQ (prK L) e.2.1/\e.1<=b/\e.2.2=nrQ p L e.2.1
 par:∀row,row∈dn++rest.map rwP++wrR S.T->row=[]\/∃q k,row=q++[k]/\q∈S.fd.map λe=>e.2.1
 du:∀row∈dn,gL L row/\S45.prQ (prK L) row<=b
 srt:(S.fd.map λe=>e.2.1).Pairwise (klt L)
 lt1:∀e∈S.fd,∀y∈rest,klt L e.2.1 (rwP y)
 lt2:∀e∈S.fd,∀row∈wrR S.T,klt L e.2.1 row
 cl:∀e∈S.fd,∀k,k<L.length->e.1+prK L k<=b->Cov p L S rest (e.2.1++[k])
 st:0<=b->Cov p L S rest []
section
variable {p:Int×Int}{L:List SK}{b:Int}{dn:List (List Nat)}{r:Int×Int}{rest:List Pr2}{S:FdS}{U:List (List Nat)}
theorem Wk.all(W:Wk p L b dn r rest S)(F:vE L b U):∀row∈dn++rest.map rwP++wrR S.T,row∈U:=λrow h=>by
 rcases bC.mp h with h|h
 ·rcases bC.mp h with h|h
  ·obtain⟨h1,h2⟩:=W.du row h;exact F.all row h1 h2
  ·obtain⟨y,hy,e⟩:=aO.mp h;obtain⟨q,rfl,q2,q3,q4⟩:=W.rs y hy;rw[qA] at e;subst e;exact F.all q q2 (by rw[q3] at q4;exact q4)
 ·obtain⟨t,ht,y,hy,e⟩:=wrR_mem.mp h;obtain⟨q,rfl,q2,q3,q4⟩:=W.wt t ht y hy;rw[qA] at e;subst e;exact F.all q q2 (by rw[q3] at q4;exact q4)
theorem Wk.few(W:Wk p L b dn r rest S)(F:vE L b U):dn.length+rest.length+(wrR S.T).length<=U.length:=by have:=W.nd.length_le_of_subset (W.all F);rw[bB,bB,aB] at this;exact this
theorem Wk.tot(W:Wk p L b dn r rest S)(F:vE L b U):tot S.T<=800:=by have:=aHT W.ne;have:=W.few F;have:=F.len;omega
theorem Wk.fdl(W:Wk p L b dn r rest S)(F:vE L b U):S.fd.length<=400:=by
 have nd:(S.fd.map λe=>e.2.1).Nodup:=List.Pairwise.imp (S:=(·≠·)) (λ{a c} h e=>aJT L a (by rw[<-e] at h;exact h)) W.srt
 have:=nd.length_le_of_subset (l₂:=dn) λrow h=>by obtain⟨e,he,rfl⟩:=aO.mp h;exact(W.fd e he).1
 rw[aB] at this;have:=W.few F;have:=F.len;omega
theorem Wk.step(hpr:∀k,k<L.length->1<=prK L k){y:Pr2}(W:Wk p L b dn r (y::rest) S):Wk p L b (dn++[rwP y]) r rest (fdI p L b r S (unP y)):=by
 obtain⟨row,ey,ro,er,rb⟩:=W.rs y aH;subst ey;have up:=fH.mp W.up;have rp:S45.prQ (prK L) row<=b:=by rw[er] at rb;exact rb
 rw[aKZ];have ew:(itP p L row::rest).map rwP=row::rest.map rwP:=by rw[aX,qA]
 have nd:=W.nd;have par:=W.par;rw[ew] at nd par;have e1:dn++row::rest.map rwP=(dn++[row])++rest.map rwP:=by simp
 rw[e1] at nd par;rw[qA]
 have cv:∀c,Cov p L S (itP p L row::rest) c->c=row\/Cov p L S rest c:=λc h=>by
  rcases h with h|h|h
  ·exact .inr (.inl h)
  ·rw[ew] at h
   rcases aQ.mp h with h|h
   ·exact .inl h
   ·exact .inr (.inr (.inl h))
  ·exact .inr (.inr (.inr h))
 have du:∀c∈dn++[row],gL L c/\S45.prQ (prK L) c<=b:=λc h=>by
  rcases bC.mp h with h|h
  ·exact W.du c h
  ·rw[aJ.mp h];exact⟨ro,rp⟩
 have rs:∀y∈rest,∃row,y=itP p L row/\gL L row/\r=rkR L row/\r.1<=b:=λz hz=>W.rs z (aI _ hz)
 have gt:=W.gt (by simp);unfold fdI
 by_cases hk:nrQ p L row∈S.kn
 ·rw[if_pos hk];rw[W.ok.kn] at hk;obtain⟨e,he,en⟩:=aO.mp hk
  have ke:klt L e.2.1 row:=by have:=W.lt1 e he _ aH;rw[qA] at this;exact this
  have cv2:∀c,Cov p L S (itP p L row::rest) c->Cov p L S rest c:=λc h=>by
   rcases cv c h with rfl|h
   ·exact .inr (.inr ⟨e,he,en,.inr ke⟩)
   ·exact h
  exact⟨W.ok,W.ne,W.wt,rs,up.2,λ_=>gt,nd,λe he=>⟨bZ _ (W.fd e he).1,(W.fd e he).2⟩,par,du,W.srt,λe he z hz=>W.lt1 e he z (aI _ hz),W.lt2,λe he k hk hle=>cv2 _ (W.cl e he k hk hle),λh=>cv2 _ (W.st h)⟩
 ·have ok:=aMp (p:=p) (L:=L) (b:=b) (r:=r) W.ok (row,nrQ p L row);unfold fdI at ok;rw[if_neg hk] at ok ⊢;have pm:=aDQ (p:=p) (L:=L) (b:=b) (r:=r) (row:=row) (nb:=nrQ p L row) (T:=S.T) L.length;have lm:=λt' h=>aAR (p:=p) (L:=L) (b:=b) (r:=r) (row:=row) (nb:=nrQ p L row) (T:=S.T) L.length (t':=t') W.ne h
  have rno:row∉S.fd.map λe=>e.2.1:=λh=>by obtain⟨e,he,ee⟩:=aO.mp h;have:=(W.fd e he).1;rw[ee] at this;have n2:=(bJ.mp (bJ.mp nd).1).1;exact(bJ.mp n2).2.2 row this row (by simp) rfl
  have mem':∀c,c∈wrR (lgQ p L b r row (nrQ p L row) L.length S.T)↔c∈chs L b r row L.length\/c∈wrR S.T:=λc=>by rw[pm.mem_iff,bC]
  have ch_lt:∀c∈chs L b r row L.length,klt L row c:=λc h=>by obtain⟨k,k1,k2,rfl⟩:=chs_mem.mp h;refine .inl ?_;rw[pN];have:=hpr k k1;unfold rlt;simp only;omega
  have T_lt:∀c∈wrR S.T,klt L row c:=λc h=>by obtain⟨t,ht,y,hy,e⟩:=wrR_mem.mp h;obtain⟨q,rfl,q2,q3,q4⟩:=W.wt t ht y hy;rw[qA] at e;subst e;refine .inl ?_;rw[<-er,<-q3];exact gt t ht
  have rest_lt:∀z∈rest,klt L row (rwP z):=λz hz=>by
   obtain⟨q,rfl,q2,q3,q4⟩:=rs z hz;rw[qA];refine .inr ⟨er.symm.trans q3, ?_⟩;have:=up.1 _ hz;unfold plt at this
   by_cases e:(itP p L row).1=(itP p L q).1
   ·exfalso;have e2:row=q:=aJn e;subst e2;rw[if_pos rfl,pK] at this;cases this
   ·rw[if_neg e] at this;exact this
  have cvn:∀c,Cov p L S (itP p L row::rest) c->Cov p L ⟨lgQ p L b r row (nrQ p L row) L.length S.T,S.kn++[nrQ p L row],S.fd++[(r.1,row,nrQ p L row)]⟩ rest c:=λc h=>by
   rcases cv c h with rfl|h|h|⟨e,he,q⟩
   ·exact .inr (.inr ⟨(r.1,c,nrQ p L c),aS _ (cU _),rfl,.inl rfl⟩)
   ·exact .inl ((mem' c).mpr (.inr h))
   ·exact .inr (.inl h)
   ·exact .inr (.inr ⟨e,bZ _ he,q⟩)
  have efd:(S.fd++[(r.1,row,nrQ p L row)]).map (λe=>e.2.1)=S.fd.map (λe=>e.2.1)++[row]:=by rw[aP];rfl
  refine⟨ok,λt h=>(lm t h).1,λt ht y hy=> ?_,rs,up.2,λ_ t ht=> ?_, ?_,λe he=> ?_,λc hc=> ?_,du, ?_,λe he z hz=> ?_,λe he c hc=> ?_,λe he k hk hle=> ?_,λh=>cvn _ (W.st h)⟩
  ·rcases(lm t ht).2 y hy with⟨k,k1,k2,k3,k4⟩|⟨s,s1,s2,s3⟩
   ·refine⟨row++[k],by rw[k4];unfold itP;rw[aAn],λi hi=> ?_,by rw[k3,pN,er],by rw[k3];exact k2⟩
    rcases bC.mp hi with hi|hi
    ·exact ro i hi
    ·rw[aJ.mp hi];exact k1
   ·rw[<-s2];exact W.wt s s1 y s3
  ·obtain⟨h1,h2⟩:=lm t ht;obtain⟨y,hy⟩:=List.exists_mem_of_ne_nil _ h1
   rcases h2 y hy with⟨k,k1,k2,k3,k4⟩|⟨s,s1,s2,s3⟩
   ·rw[k3];have:=hpr k k1;unfold rlt;simp only;omega
   ·rw[<-s2];exact gt s s1
  ·have pm2:((dn++[row]++rest.map rwP)++wrR (lgQ p L b r row (nrQ p L row) L.length S.T)).Perm (chs L b r row L.length++((dn++[row]++rest.map rwP)++wrR S.T)):=(pm.append_left _).trans (by
    rw[<-dY,<-dY (chs L b r row L.length)]
    exact iZ.append_right _)
   refine pm2.nodup_iff.mpr (bJ.mpr ⟨aMR _,nd,λc hc d hd e=> ?_⟩);subst e;obtain⟨k,k1,k2,rfl⟩:=chs_mem.mp hc
   rcases par _ hd with h|⟨q,j,h1,h2⟩
   ·simp at h
   ·have:row=q:=(List.append_inj' h1 rfl).1;subst this;exact rno h2
  ·rcases bC.mp he with he|he
   ·exact⟨bZ _ (W.fd e he).1,(W.fd e he).2⟩
   ·rw[aJ.mp he];exact⟨aS _ (cU _),ro,by rw[er];rfl,rb,rfl⟩
  ·rw[efd]
   have h:c∈dn++[row]++rest.map rwP++wrR S.T\/c∈chs L b r row L.length:=by
    rcases bC.mp hc with h|h
    ·exact .inl (bZ _ h)
    ·rcases(mem' c).mp h with h|h
     ·exact .inr h
     ·exact .inl (aS _ h)
   rcases h with h|h
   ·exact(par c h).imp id λ⟨q,k,h1,h2⟩=>⟨q,k,h1,bZ _ h2⟩
   ·obtain⟨k,_,_,rfl⟩:=chs_mem.mp h;exact .inr ⟨row,k,rfl,aS _ (cU _)⟩
  ·rw[efd];refine fO.mpr ⟨W.srt,kE _ _,λa ha c hc=> ?_⟩;rw[aJ.mp hc];obtain⟨e,he,rfl⟩:=aO.mp ha;have:=W.lt1 e he _ aH;rw[qA] at this;exact this
  ·rcases bC.mp he with he|he
   ·exact W.lt1 e he z (aI _ hz)
   ·rw[aJ.mp he];exact rest_lt z hz
  ·rcases bC.mp he with he|he
   ·rcases(mem' c).mp hc with h|h
    ·have:=W.lt1 e he _ aH;rw[qA] at this;exact aHD this (ch_lt c h)
    ·exact W.lt2 e he c h
   ·rw[aJ.mp he]
    rcases(mem' c).mp hc with h|h
    ·exact ch_lt c h
    ·exact T_lt c h
  ·rcases bC.mp he with he|he
   ·exact cvn _ (W.cl e he k hk hle)
   ·rw[aJ.mp he] at hle ⊢;exact .inl ((mem' _).mpr (.inl (chs_mem.mpr ⟨k,hk,hle,rfl⟩)))
theorem Wk.pop{n:Nat}{t:(Int×Int)×List Pr2}(W:Wk p L b dn r [] S)(hn:S.T[n]? =some t)(hm:∀s∈S.T,¬ rlt s.1 t.1):t.2.Nodup/\Wk p L b dn t.1 (jH t.2) {S with T:=S.T.eraseIdx n}:=by
 have tm:=bD hn;obtain⟨nl,en⟩:=aN.mp hn
 have pT:S.T.Perm (t::S.T.eraseIdx n):=by
  have e1:S.T=S.T.take n++t::S.T.drop (n+1):=by rw[<-en,<-dJ nl,hV]
  rw[dU];exact(e1▸List.Perm.refl S.T:S.T.Perm (S.T.take n++t::S.T.drop (n+1))).trans oM
 have pw:(wrR S.T).Perm (t.2.map rwP++wrR (S.T.eraseIdx n)):=pT.flatMap_right _;have ps:((jH t.2).map rwP).Perm (t.2.map rwP):=(iQ t.2).map _;have nd:=W.nd;rw[fU,dM] at nd
 have pall:(dn++(jH t.2).map rwP++wrR (S.T.eraseIdx n)).Perm (dn++wrR S.T):=by rw[dY];exact((ps.append_right _).trans pw.symm).append_left _
 have ndt:t.2.Nodup:=by have h1:=(bJ.mp (pw.nodup_iff.mp (bJ.mp nd).2.1)).1;exact List.Pairwise.of_map _ (λa c h e=>h (by rw[e])) h1
 have er:∀s∈S.T.eraseIdx n,s∈S.T:=λs hs=>jV hs
 have sub:∀c∈wrR (S.T.eraseIdx n),c∈wrR S.T:=λc hc=>pw.symm.mem_iff.mp (aS _ hc)
 have sub2:∀y∈jH t.2,rwP y∈wrR S.T:=λy hy=>pw.symm.mem_iff.mp (bZ _ (aO.mpr ⟨y,(iQ t.2).mem_iff.mp hy,rfl⟩))
 have cv:∀c,Cov p L S [] c->Cov p L {S with T:=S.T.eraseIdx n} (jH t.2) c:=λc h=>by
  rcases h with h|h|h
  ·rcases bC.mp (pw.mem_iff.mp h) with h|h
   ·exact .inr (.inl (ps.symm.mem_iff.mp h))
   ·exact .inl h
  ·cases h
  ·exact .inr (.inr h)
 have ek:wtK (S.T.eraseIdx n)=(wtK S.T).eraseIdx n:=by unfold wtK;rw[dU,dU,aP,nR,lC]
 refine⟨ndt,⟨by rw[ek];exact W.ok.nk.sublist (pQ _ _),W.ok.kn,W.ok.nd⟩,λs hs=>W.ne s (er s hs),λs hs=>W.wt s (er s hs),λy hy=>W.wt t tm y ((iQ t.2).mem_iff.mp hy),aAx ndt,λ_ s hs=> ?_,pall.nodup_iff.mpr nd,W.fd,λc hc=> ?_,W.du,W.srt,λe he y hy=>W.lt2 e he _ (sub2 y hy),λe he c hc=>W.lt2 e he c (sub c hc),λe he k hk hle=>cv _ (W.cl e he k hk hle),λh=>cv _ (W.st h)⟩
 ·refine aJj (λe=> ?_) (hm s (er s hs));have nk:=W.ok.nk;have pk:(wtK S.T).Perm (rkK t.1::wtK (S.T.eraseIdx n)):=pT.map _;have:=(cF.mp (pk.nodup_iff.mp nk)).1;refine this ?_;rw[e];exact aO.mpr ⟨s,hs,rfl⟩
 ·refine W.par c ?_;rw[fU,dM];exact pall.mem_iff.mp hc
end
theorem aGG{T:WtT}(hne:T≠[]):∃t:(Int×Int)×List Pr2,T[fY T]? =some t/\∀s∈T,¬ rlt s.1 t.1:=by
 have l0:0<T.length:=gP.mpr hne
 have em:(wtK T).map lV=T.map λt=>rkD t.1:=by unfold wtK;rw[aV];rfl
 have ln:((wtK T).map lV).length=T.length:=by rw[em,aB]
 have gd:∀i,i<T.length->((wtK T).map lV).getD i .non=rkD ((T.map (·.1)).getD i (0,0)):=λi hi=>by rw[em];simp[bR,hi]
 have eb:fY T=Ae (λi k=>decide (rlt ((T.map (·.1)).getD i (0,0)) ((T.map (·.1)).getD k (0,0)))) (T.length-1):=by unfold fY kI;rw[ln];exact qL _ λi j hi hj=>by rw[gd i (by omega),gd j (by omega),aIe]
 have bl:=uM (λi k=>decide (rlt ((T.map (·.1)).getD i (0,0)) ((T.map (·.1)).getD k (0,0)))) (T.length-1);have bm:=xE (T.map (·.1)) (T.length-1) (by rw[aB];omega);rw[<-eb] at bl bm;generalize fY T=n at bl bm;have hn:n<T.length:=by omega
 refine⟨T[n],cZ hn,λs hs=> ?_⟩;obtain⟨j,hj⟩:=iC hs;have lj:j<T.length:=(aN.mp hj).1;have:=bm j (by omega);have e1:(T.map (·.1)).getD j (0,0)=s.1:=by simp[bR,hj]
 have e2:(T.map (·.1)).getD n (0,0)=T[n].1:=by simp[bR,hn]
 rw[e1,e2] at this;exact this
noncomputable def fd0(p:Int×Int)(b:Int):FdS:=⟨if 0<=b then[((0,0),[nP ([],st0 p)])] else[],[],[]⟩
noncomputable def bkF(p:Int×Int)(L:List SK)(b:Int):List (Int×List Nat×List Nat):=(lN p L b 401 (fd0 p b)).fd
section
variable {p:Int×Int}{L:List SK}{b:Int}{dn:List (List Nat)}{r:Int×Int}{rest:List Pr2}{S:FdS}{U:List (List Nat)}
theorem wk0(p:Int×Int)(L:List SK)(b:Int):Wk p L b [] (0,0) [] (fd0 p b):=by
 have e:nP ([],st0 p)=itP p L []:=rfl
 by_cases h:0<=b
 ·have e0:fd0 p b=⟨[((0,0),[itP p L []])],[],[]⟩:=by unfold fd0;rw[if_pos h,e]
  have ew:wrR [((0,0),[itP p L []])]=[[]]:=by show[rwP (itP p L [])]++[]=_;rw[qA];rfl
  rw[e0];refine⟨⟨by simp[wtK],rfl,eQ⟩,λt ht=> ?_,λt ht y hy=> ?_,λy hy=>(nomatch hy),List.Pairwise.nil,λh=>absurd rfl h, ?_,λe he=>(nomatch he),λrow hr=> ?_,λrow hr=>(nomatch hr),List.Pairwise.nil,λe he=>(nomatch he),λe he=>(nomatch he),λe he=>(nomatch he),λ_=>.inl ?_⟩
  ·rw[aJ.mp ht];simp
  ·rw[aJ.mp ht] at hy ⊢;exact⟨[],aJ.mp hy,λi hi=>(nomatch hi),rfl,h⟩
  ·show(wrR [((0,0),[itP p L []])]).Nodup;rw[ew];simp
  ·have hr:row∈wrR [((0,0),[itP p L []])]:=hr;rw[ew] at hr;exact .inl (aJ.mp hr)
  ·show[]∈wrR [((0,0),[itP p L []])];rw[ew];exact cU _
 ·have e0:fd0 p b=⟨[],[],[]⟩:=by unfold fd0;rw[if_neg h]
  rw[e0];exact⟨⟨eQ,rfl,eQ⟩,λt ht=>(nomatch ht),λt ht=>(nomatch ht),λy hy=>(nomatch hy),List.Pairwise.nil,λh=>absurd rfl h,eQ,λe he=>(nomatch he),λrow hr=>(nomatch hr),λrow hr=>(nomatch hr),List.Pairwise.nil,λe he=>(nomatch he),λe he=>(nomatch he),λe he=>(nomatch he),λz=>absurd z h⟩
theorem Wk.take(hpr:∀k,k<L.length->1<=prK L k)(W:Wk p L b dn r rest S):∀j,j<=rest.length->Wk p L b (dn++(rest.take j).map rwP) r (rest.drop j) (fdP p L b r S (rest.take j))
 |0,_=>by rw[aNe,fU,dM];exact W
 |j+1,hj=>by
  have ih:=Wk.take hpr W j (by omega);have lj:j<rest.length:=by omega
  rw[dJ lj] at ih;have:=ih.step hpr;rw[<-wR] at this
  have et:rest.take (j+1)=rest.take j++[rest[j]]:=by rw[fD,cZ lj];rfl
  rw[et,aP,<-dY];exact this
theorem Wk.turn(hpr:∀k,k<L.length->1<=prK L k)(W:Wk p L b dn r [] S)(hne:S.T≠[]):∃t:(Int×Int)×List Pr2,S.T[fY S.T]? =some t/\(∀s∈S.T,¬ rlt s.1 t.1)/\t.2.Nodup/\t.2≠[]/\Wk p L b dn t.1 (jH t.2) {S with T:=S.T.eraseIdx (fY S.T)}/\fdT p L b S=fdP p L b t.1 {S with T:=S.T.eraseIdx (fY S.T)} (jH t.2)/\Wk p L b (dn++(jH t.2).map rwP) t.1 [] (fdT p L b S):=by
 obtain⟨t,ht,hm⟩:=aGG hne;obtain⟨n1,W1⟩:=W.pop ht hm
 have e:fdT p L b S=fdP p L b t.1 {S with T:=S.T.eraseIdx (fY S.T)} (jH t.2):=by unfold fdT;rw[ht]
 refine⟨t,ht,hm,n1,W.ne t (bD ht),W1,e, ?_⟩;have:=W1.take hpr (jH t.2).length (aM _);rw[fM,oN] at this;rw[e];exact this
theorem aDp(hpr:∀k,k<L.length->1<=prK L k)(F:vE L b U):∀ (m:Nat) {dn:List (List Nat)}{r:Int×Int}{S:FdS},Wk p L b dn r [] S->U.length<dn.length+m->∃dn' r',Wk p L b dn' r' [] (lN p L b m S)/\(lN p L b m S).T=[]
 |0,dn,r,S,W,h=>by have:=W.few F;omega
 |m+1,dn,r,S,W,h=>by
  show ∃dn' r',Wk p L b dn' r' [] (if S.T=[] then S else lN p L b m (fdT p L b S))/\(if S.T=[] then S else lN p L b m (fdT p L b S)).T=[]
  by_cases q:S.T=[]
  ·rw[if_pos q];exact⟨dn,r,W,q⟩
  ·rw[if_neg q];obtain⟨t,_,_,_,ne,_,_,W2⟩:=W.turn hpr q;refine aDp hpr F m W2 ?_
   have:0<(jH t.2).length:=by rw[(iQ t.2).length_eq];exact gP.mpr ne
   rw[bB,aB];omega
structure BkFOk(p:Int×Int)(L:List SK)(b:Int)(B:List (Int×List Nat×List Nat)):Prop where
 len:B.length<=400
 ent:∀e∈B,gL L e.2.1/\e.1=S45.prQ (prK L) e.2.1/\e.1<=b/\e.2.2=nrQ p L e.2.1/\e.2.1.length<=300
 nd:(B.map λe=>e.2.2).Nodup
 srt:(B.map λe=>e.2.1).Pairwise (klt L)
 cl:∀e∈B,∀k,k<L.length->e.1+prK L k<=b->∃e'∈B,e'.2.2=nrQ p L (e.2.1++[k])/\kle L e'.2.1 (e.2.1++[k])
 st:0<=b->∃e∈B,e.2.2=nrQ p L []/\kle L e.2.1 []
theorem aHx(hpr:∀k,k<L.length->1<=prK L k)(F:vE L b U):BkFOk p L b (bkF p L b):=by
 obtain⟨dn,r,W,e⟩:=aDp hpr F 401 (wk0 p L b) (by have:=F.len;simp;omega)
 have cv:∀c,Cov p L (lN p L b 401 (fd0 p b)) [] c->∃e∈(lN p L b 401 (fd0 p b)).fd,e.2.2=nrQ p L c/\kle L e.2.1 c:=λc h=>by
  rcases h with h|h|h
  ·rw[e] at h;cases h
  ·cases h
  ·exact h
 refine⟨W.fdl F,λe he=> ?_,by have:=W.ok.nd;rw[W.ok.kn] at this;exact this,W.srt,λe he k hk hle=>cv _ (W.cl e he k hk hle),λh=>cv _ (W.st h)⟩;obtain⟨h1,h2,h3,h4,h5⟩:=W.fd e he;exact⟨h2,h3,h4,h5,F.rl _ (F.all _ h2 (by rw[<-h3];exact h4))⟩
theorem BkFOk.all{B:List (Int×List Nat×List Nat)}(hpr:∀k,k<L.length->1<=prK L k)(O:BkFOk p L b B):∀row,gL L row->S45.prQ (prK L) row<=b->∃e∈B,e.2.2=nrQ p L row/\kle L e.2.1 row:=by
 have g:∀ (n:Nat) (row:List Nat),row.length=n->gL L row->S45.prQ (prK L) row<=b->∃e∈B,e.2.2=nrQ p L row/\kle L e.2.1 row:=λn=>by
  induction n with
  |zero=>intro row hl _ hb;have:row=[]:=gJ hl;subst this;exact O.st hb
  |succ n ih=>
   intro row hl ho hb;have hne:row≠[]:=λz=>by rw[z] at hl;cases hl
   have ed:=lK hne;generalize row.dropLast=q at ed;generalize row.getLast hne=k at ed;subst ed;have kn:k<L.length:=ho k (by simp);have h1:=hpr k kn;rw[S45.pr_snoc] at hb;obtain⟨e,he,e1,e2⟩:=ih q (by simpa using hl) (λi hi=>ho i (bZ _ hi)) (by omega);obtain⟨_,h3,_,h5,_⟩:=O.ent e he
   have le:S45.prQ (prK L) e.2.1<=S45.prQ (prK L) q:=by
    rcases e2 with z|(z|⟨z,_⟩)
    ·rw[z];exact Int.le_refl _
    ·have:(rkR L e.2.1).1<=(rkR L q).1:=by unfold rlt at z;omega
     exact this
    ·exact Int.le_of_eq (congrArg Prod.fst z)
   obtain⟨e',he',e3,e4⟩:=O.cl e he k kn (by omega);refine⟨e',he', ?_,aMW e4 (aFN k e2)⟩;rw[e3,aAn,aAn,<-h5,e1]
 exact λrow=>g row.length row rfl
end
noncomputable def fdD(e:Int×List Nat×List Nat):D:=.tup [.int e.1,.tup (bY e.2.1),.tup (bY e.2.2)]
def aHp:List D->R->Prop:=λds r=>∃p L b U,p∈bX/\StkOk p L/\vE L b U/\ds=[.lst (L.map (mvD p)),.int b,.tup (bY (st0 p))]/\r=.own ((bkF p L b).map fdD)
noncomputable def yJ(ds:List D):List Nat:=ds.map λd=>match d with | .int i=>i.toNat|_=>0
theorem aDt(l:List Nat):yJ (bY l)=l:=by unfold yJ bY;rw[aV];exact(cM λi _=>dE i).trans (jG l)
noncomputable def unE:D->Int×List Nat×List Nat
 |.tup [.int a,.tup r,.tup n]=>(a,yJ r,yJ n)
 |_=>(0,[],[])
theorem aIB(e:Int×List Nat×List Nat):unE (fdD e)=e:=by show(e.1,yJ (bY e.2.1),yJ (bY e.2.2))=e;rw[aDt,aDt]
noncomputable def bkQ(p:Int×Int)(L:List SK)(b:Int):List Bk:=(bkF p L b).map λe=>(e.1,e.2.1,jP p e.2.2)
def aIG:List D->R->Prop:=λds r=>∃p L b U,p∈bX/\StkOk p L/\(L.map λs=>sqD s.1).Nodup/\vE L b U/\ds=[cS p,.lst (L.map skD),.int b]/\r=.own ((bkQ p L b).map enD)
def aIq(i:Int):Prop:=Builtin.Int.intBits i<=1048576
theorem vJ:∀ (ns:List Int),∀i∈ns,Builtin.Int.intBits i<=PySem.W.WData.weightAll (ns.map PySem.W.WData.int)
 |[],i,h=>by cases h
 |n::ns,i,h=>by
  rw[aX];simp only[PySem.W.WData.weightAll,PySem.W.WData.weight]
  rcases aQ.mp h with rfl|h
  ·unfold Builtin.Int.intBits;omega
  ·have:=vJ ns i h;omega
theorem aLO{ns:List Int}(h:PySem.W.WData.layableAll [PySem.W.WData.list (ns.map PySem.W.WData.int)]=true):∀i∈ns,aIq i:=λi hi=>by
 have h1:=gX.mp h _ aH;unfold PySem.W.WData.layable at h1;have h2:=(Bool.and_eq_true_iff.mp h1).2;have h3:=of_decide_eq_true h2;have e:PySem.W.WData.weight (PySem.W.WData.list (ns.map PySem.W.WData.int))=PySem.W.WData.weightAll (ns.map PySem.W.WData.int):=by simp only[PySem.W.WData.weight]
 rw[e] at h3;exact cO (vJ ns i hi) h3
def aFH:List D->R->Prop:=λds r=>∃ns:List Int,ds=[.scr ns]/\ns.length<=63/\(∀i∈ns,aIq i)/\r=.val (.bl true)
section
open PySem.W PySem.Calls Att
theorem aAf{l:OpenLaw}{n:Nat}{q:AG}{loose:List Str}{XP:(Str->Option BO)->BS->Prop}{YP:AL->BS->Prop}{d:DefRec}
  (hn:l.most=some n) (hdf:d.params.defaults=[])
  (call:∀ (w:AL) (s₀ s₁:BP) (mg mb:Str→Option BO) (fa:BQ) (o:BZ) (pm cd doc:BO) (a:BQ) (vs:List BO) (ns:List Int),
   Ground q loose [] XP w s₀ mg mb s₁.heap->YP w s₁.heap->
   s₁.heap.get? fa=some o->o.data=.func (docDef d.name d.params d.body d.scope pm cd doc)->s₁.heap.CodeRec cd d.name->mg d.name=some (.ref fa)->
   s₁.heap.get? a=some {cls:=.type "list",data:=.seq vs.toArray}->IntsAre vs ns->ns.length<=n->(∀i∈ns,aIq i)->s₁.gens= #[]->
   codeAny (AE l.prog w) callerA (.call (.ref fa) ⟨[.ref a],[]⟩) (λr s'=>r=.ok (.ret (.bool true))/\OldK s₁.heap s'.heap/\s'.os=s₁.os/\AllBare s'.gens) s₁):
  WalkO q loose XP YP l.row.toRowW d [] (λf vs=>PySem.call f vs):=by
 intro w s₀ s₁ mg mb G Y fa o pm cd doc dV kV ho hd hcd hD hmg hg args vals as hpre hlay hrd hwl hlo;obtain rfl:dV=.none:=Dflts.none hD hdf;obtain rfl:kV=.none:=Dflts.noKw hD;obtain⟨a,vs,ns,rfl,rfl,hobj,hints,hlen⟩:=aEK hn hpre hwl;refine enter_call (BB (call w s₀ s₁ mg mb fa o pm cd doc a vs ns G Y ho (fd_plain hd) hcd hmg hobj hints hlen (aLO hlay) hg) λr s' hq=> ?_);obtain⟨rfl,h2,h3,h4⟩:=hq;exact⟨.inl ⟨.bool true,.bool true,[],rfl,λ_=>rfl,.bool true,aEV l _,λ_=>⟨List.Pairwise.nil,λ_ hm=>(nomatch hm)⟩⟩,h2,h3,h4⟩
end
theorem walkDB{l:PySem.W.OpenLaw}{k:Nat}{x:Str}{q:AG}{loose:List Str}{XP:(Str->Option BO)->BS->Prop}{YP:AL->BS->Prop}{d:DefRec}{K:Params->aA}(hn:l.most=some 63)(hdf:d.params.defaults=[])
  (hr:Room k callerA) (hY:∀ (w:AL) (h:BS),YP w h->(K w.params).In h)
  (F:∀ (w:AL) (mg:Str→Option BO) (fa:BQ) (h:BS),(K w.params).In h→h.Ns AO mg→mg d.name=some (.ref fa)→
   ∃fd:AY,(∀ (s:BP) (u:BO),BindsTo s fd ⟨[u],[]⟩ [(x,u)])/\∀base:BS,(K w.params).In base->base.Ns AO mg->FnOk l.prog w (K w.params) mg base CX0 k fa fd [x] (spC (K w.params) 1 aFH)):
  PySem.W.WalkO q loose XP YP l.row.toRowW d [] (λf vs=>PySem.call f vs):=by
 refine aAf hn hdf λw s₀ s₁ mg mb fa o pm cd doc a vs ns G Y ho hd hcd hmg hobj hints hlen hbit hg=> ?_
 have KX:=hY w _ Y;obtain⟨fd,hb,hF⟩:=F w mg fa _ KX G.T.g hmg
 exact aFR (CX:=CX0) (sp:=spC (K w.params) 1 aFH) KX G.T.g G.T.b G.T.builtins G.T.nolimit hg hobj hints (cO hlen (by decide)) hr hF hb
  (λH hO hS=>⟨rfl,aGy hO,[.scr ns],.val (.bl true),.one (by simp only[Rep];exact⟨a,rfl,hS⟩),⟨ns,rfl,hlen,hbit,rfl⟩,λv H' ⟨F,_,_,_,res⟩=>by simpa only[ResOk,Rep] using res⟩) λH e s' z=>z
theorem aIX{i j:Int}(h:aIq i)(hj:Builtin.Int.intBits j<=1000):IntMulOk i j:=by unfold IntMulOk Builtin.Int.intTooBig;intro q;simp only[bM,decide_eq_true_eq] at q;unfold aIq at h;have e:bitsLine=134217728:=rfl;have:=q.2;rw[e] at this;omega
def GtAt(A:BR)(s:BP)(x y:BO)(b:Bool):Prop:=∀ (prog:AG) (w:AL) (E:BO->BP->Prop) (Q:BO->BP->Prop),Q (.bool b) s->AH (AE prog w) A (richCompare .Gt x y) Q E s
inductive aNj(A:BR)(s:BP)(fin:Bool):List (BO×BO)->Bool->Prop
 |nil:aNj A s fin [] fin
 |eq {x y:BO}{r:List (BO×BO)}{b:Bool}:SeqAt.EqAt A.in1 s x y true->aNj A s fin r b->aNj A s fin ((x,y)::r) b
 |lt {x y:BO}{r:List (BO×BO)}{b:Bool}:SeqAt.EqAt A.in1 s x y false->GtAt A.in1 s x y b->aNj A s fin ((x,y)::r) b
section
open PySem.SeqAt
open PySem.AutoSeq1 (wpAny_loadPart')
open PySem.MeetsSeq PySem.MeetsSeq2 PySem.MeetsSeq3
end
mutual
noncomputable def dgt:D->D->Bool
 |.int a,.int b=>decide (b<a)
 |.tup a,.tup b=>aPf a b
 |_,_=>false
noncomputable def aPf:List D->List D->Bool
 |[],[]=>false
 |[],_::_=>false
 |_::_,[]=>true
 |d::ds,e::es=>if deq d e=true then aPf ds es else dgt d e
end
noncomputable def sz6L:List (Int×Int):=[(2,3),(3,2),(1,5),(5,1),(1,6),(6,1)]
noncomputable def sz8L:List (Int×Int):=[(1,1),(1,2),(2,1),(2,2),(1,3),(3,1),(1,4),(4,1)]
noncomputable def yW(c:Int):Int×Int:=if mxS c 31%8=1 then sz6L.getD (mxS c 32%6).toNat (1,1) else sz8L.getD (mxS c 30%8).toNat (1,1)
theorem gE(x:Int){n:Nat}(h:0<n):(x%(n:Int)).toNat<n/\0<=x%(n:Int):=by have h0:=dP x (show(n:Int)≠0 by omega);have h1:=cK x (show(0:Int)<n by omega);omega
theorem aJV(c:Int):yW c∈bX:=by
 have g6:∀p∈sz6L,p∈bX:=by decide+kernel
 have g8:∀p∈sz8L,p∈bX:=by decide+kernel
 unfold yW
 split
 ·exact g6 _ (getD_mem (gE _ (n:=6) (by decide)).1)
 ·exact g8 _ (getD_mem (gE _ (n:=8) (by decide)).1)
def aLr:List D->R->Prop:=λds r=>∃c,ds=[.int c]/\r=.val (cS (yW c))
theorem vI{l:List Int}{i:Nat}{d:Int}(h:i<l.length):(l.map D.int)[i]? =some (.int (l.getD i d)):=by simp[bR,h]
noncomputable def nE(c:Int):Int:=([1,1,3]:List Int).getD (mxS c 10%3).toNat 1
noncomputable def nZ(c:Int):Nat:=1+(mxS c 11%4).toNat+(if mxS c 12%8=1 then 1 else 0)
noncomputable def zS(c:Int):Int:=([1,1,2,3]:List Int).getD (mxS c 5%4).toNat 1
theorem wV(c:Int):nE c=1\/nE c=3:=by
 have g:∀x∈([1,1,3]:List Int),x=1\/x=3:=by decide
 exact g _ (getD_mem (gE _ (n:=3) (by decide)).1)
theorem aCV(c:Int):1<=zS c/\zS c<=3:=by
 have g:∀x∈([1,1,2,3]:List Int),1<=x/\x<=3:=by decide
 exact g _ (getD_mem (gE _ (n:=4) (by decide)).1)
theorem yI(c:Int):1<=nZ c/\nZ c<=5:=by
 have:=(gE (mxS c 11) (n:=4) (by decide)).1;unfold nZ;have e:((4:Nat):Int)=4:=rfl;rw[e] at this
 split<;>omega
noncomputable def gK(p:Int×Int)(ns:List Int)(st:Nat)(f:Int):Nat->List SK
 |0=>[]
 |t+1=>if xA (gK p ns st f t) (drQ p (ns.getD (st+1+t) 0)) then gK p ns st f t else gK p ns st f t++[(drQ p (ns.getD (st+1+t) 0),f*zS (ns.getD (st+1+t) 0))]
noncomputable def wD(p:Int×Int)(ns:List Int)(st:Nat):List SK:=gK p ns st (nE (ns.getD st 0)) (nZ (ns.getD st 0))
def aHe:List D->R->Prop:=λds r=>∃p ns st,p∈bX/\st<=100/\ds=[.scr ns,.int ((st:Nat):Int),cS p]/\r=.val (.tup [.lst ((wD p ns st).map skD),.int (nE (ns.getD st 0))])
structure KitOk(p:Int×Int)(f:Int)(L:List SK):Prop where
 pos:0<L.length
 le:L.length<=5
 st:∀s∈L,qK p s.1/\f<=s.2/\s.2<=3*f
 nd:(L.map λs=>sqD s.1).Nodup
 f13:f=1\/f=3
theorem KitOk.stk{p:Int × Int}{f:Int}{L:List SK}(h:KitOk p f L):StkOk p L:=⟨h.pos,by have:=h.le; omega,fun s hs=>by
 obtain⟨h1,h2,h3⟩:=h.st s hs;have:=h.f13
 exact⟨h1,by omega,by omega⟩⟩
theorem sZ{p:Int×Int}(hp:p∈bX)(ns:List Int)(st:Nat){f:Int}(hf:f=1\/f=3):∀t,(gK p ns st f t).length<=t/\(0<t->0<(gK p ns st f t).length)/\(∀s∈gK p ns st f t,qK p s.1/\f<=s.2/\s.2<=3*f)/\((gK p ns st f t).map λs=>sqD s.1).Nodup
 |0=>⟨aM _,λh=>by omega,λs hs=>(nomatch hs),eQ⟩
 |t+1=>by
  obtain⟨a,b,c,d⟩:=sZ hp ns st hf t;have e:gK p ns st f (t+1)=if xA (gK p ns st f t) (drQ p (ns.getD (st+1+t) 0)) then gK p ns st f t else gK p ns st f t++[(drQ p (ns.getD (st+1+t) 0),f*zS (ns.getD (st+1+t) 0))]:=rfl
  rw[e];clear e;cases h:xA (gK p ns st f t) (drQ p (ns.getD (st+1+t) 0)) with
  |true=>
   rw[if_pos rfl];refine⟨by omega,λ_=> ?_,c,d⟩;cases e:gK p ns st f t with
   |nil=>rw[e] at h;cases h
   |cons _ _=>simp
  |false=>
   rw[if_neg bN];refine⟨by rw[bB];simp;omega,λ_=>by rw[bB];simp,λs hs=> ?_, ?_⟩
   ·rcases bC.mp hs with hs|hs
    ·exact c s hs
    ·rw[aJ.mp hs];obtain⟨p1,p2⟩:=aCV (ns.getD (st+1+t) 0);refine⟨aMj hp _, ?_⟩;show f<=f*_/\f*_<=3*f
     rcases hf with rfl|rfl<;>omega
   ·rw[aP];refine bJ.mpr ⟨d,by simp,λx hx y hy z=>aJr h ?_⟩;have:y=sqD (drQ p (ns.getD (st+1+t) 0)):=by simpa using hy
    rw[<-this,<-z];exact hx
theorem aFQ{p:Int×Int}(hp:p∈bX)(ns:List Int)(st:Nat):KitOk p (nE (ns.getD st 0)) (wD p ns st):=by obtain⟨a,b,c,d⟩:=sZ hp ns st (wV (ns.getD st 0)) (nZ (ns.getD st 0));obtain⟨m1,m2⟩:=yI (ns.getD st 0);exact⟨b (by omega),cO a m2,c,d,wV _⟩
noncomputable def oI(n:Nat):Nat:=([12,5,4,3,2]:List Nat).getD (n-1) 0
noncomputable def yZ(c:Int)(n:Nat)(f:Int):Int:=f*(c%((oI n:Int)+1))+c / 16%f
def aHd:List D->R->Prop:=λds r=>∃ (c:Int) (L:List SK) (f:Int),0<L.length/\L.length<=5/\(f=1\/f=3)/\ds=[.int c,.lst (L.map skD),.int f]/\r=.val (.int (yZ c L.length f))
theorem aGx(c:Int)(n:Nat){f:Int}(hf:f=1\/f=3):0<=yZ c n f/\yZ c n f<f*((oI n:Int)+1):=by
 have h0:=dP c (show(oI n:Int)+1≠0 by omega);have h1:=cK c (show(0:Int)<(oI n:Int)+1 by omega);unfold yZ
 rcases hf with rfl|rfl<;>omega
noncomputable def rK(n:Nat):Nat->List (List Nat)
 |0=>[[]]
 |k+1=>(bK n).flatMap λi=>(rK n k).map λr=>i::r
theorem rK_mem{n:Nat}:∀ {k:Nat}{row:List Nat},row∈rK n k↔row.length=k/\∀i∈row,i<n
 |0,row=>by
  show row∈[[]]↔_;rw[aJ]
  constructor
  ·rintro rfl;exact⟨rfl,λi hi=>(nomatch hi)⟩
  ·exact λh=>gJ h.1
 |k+1,row=>by
  show row∈(bK n).flatMap _↔_;rw[dO]
  constructor
  ·rintro⟨i,hi,h⟩;obtain⟨r,hr,rfl⟩:=aO.mp h;obtain⟨h1,h2⟩:=rK_mem.mp hr;refine⟨by rw[bU,h1],λj hj=> ?_⟩
   rcases aQ.mp hj with rfl|hj
   ·exact bP.mp hi
   ·exact h2 j hj
  ·rintro⟨h1,h2⟩;cases row with
   |nil=>cases h1
   |cons i r=>exact⟨i,bP.mpr (h2 i aH),aO.mpr ⟨r,rK_mem.mpr ⟨by simpa using h1,λj hj=>h2 j (aI _ hj)⟩,rfl⟩⟩
noncomputable def upK(n K:Nat):List (List Nat):=(bK (K+1)).flatMap (rK n)
theorem upK_mem{n K:Nat}{row:List Nat}:row∈upK n K↔row.length<=K/\∀i∈row,i<n:=by
 unfold upK;rw[dO]
 constructor
 ·rintro⟨k,hk,h⟩;obtain⟨h1,h2⟩:=rK_mem.mp h;have:=bP.mp hk;exact⟨by omega,h2⟩
 ·rintro⟨h1,h2⟩;exact⟨row.length,bP.mpr (by omega),rK_mem.mpr ⟨rfl,h2⟩⟩
theorem aDz{f:Int}{pr:Nat->Int}:∀ (row:List Nat),(∀k∈row,f<=pr k)->f*(row.length:Int)<=S45.prQ pr row
 |[],_=>by simp[S45.prQ]
 |k::row,h=>by
  have ih:=aDz row λj hj=>h j (aI _ hj)
  have h1:=h k aH;show f*((row.length+1:Nat):Int)<=(pr k::row.map pr).sum;rw[List.sum_cons];have e:S45.prQ pr row=(row.map pr).sum:=rfl;rw[<-e,Int.natCast_add,Int.mul_add];omega
theorem aOj{p:Int×Int}{f:Int}{L:List SK}(h:KitOk p f L){b:Int}(hb:b<f*((oI L.length:Int)+1)):vE L b (upK L.length (oI L.length)):=by
 have g:∀n∈[1,2,3,4,5],(upK n (oI n)).length<=400/\oI n<=300:=by decide+kernel
 have hl:L.length∈[1,2,3,4,5]:=by
  have h1:=h.pos;have h2:=h.le;have e:L.length=1\/L.length=2\/L.length=3\/L.length=4\/L.length=5:=by omega
  rcases e with e|e|e|e|e<;>rw[e]<;>decide
 obtain⟨g1,g2⟩:=g _ hl;refine⟨g1,λrow hr=>cO (upK_mem.mp hr).1 g2,λrow ho hr=>upK_mem.mpr ⟨?_,ho⟩⟩;have:=aDz (f:=f) (pr:=prK L) row λk hk=>(h.st _ (getD_mem (d:=(AR:SK)) (ho k hk))).2.1
 have hf:=h.f13
 rcases hf with rfl|rfl<;>omega
noncomputable def pU(L:List SK)(c:Int):Nat:=(c*16807%2147483647%(L.length:Int)).toNat
structure RwsOk(L:List SK)(b:Int)(n:Nat)(R:List (List Nat)):Prop where
 ne:R≠[]
 len:R.length<=n+1
 ok:∀row∈R,gL L row/\S45.prQ (prK L) row<=b/\row.length<=n
theorem aDV{L:List SK}(h:0<L.length)(c:Int):pU L c<L.length:=(gE _ h).1
def aLz:List D->R->Prop:=λds r=>∃ (L:List SK) (row:List Nat),gL L row/\row.length<=400/\ds=[.lst (L.map skD),.tup (bY row)]/\r=.val (.int (S45.prQ (prK L) row))
def aHh(P:AG)(w:AL)(K:aA):List D->R->Prop:=λds r=>∃p L row,p∈bX/\StkOk p L/\gL L row/\row.length<=400/\ds=[cS p,.lst (L.map (mgD P w K p)),.tup (bY row)]/\r=.val (.tup ((S45.tabQ (oA p L) (bV p) row).map bG))
structure aNJ(p:Int×Int)(L:List SK)(b:Int)(B:List Bk):Prop where
 len:B.length<=400
 ent:∀e∈B,gL L e.2.1/\e.1=S45.prQ (prK L) e.2.1/\e.1<=b/\e.2.2=S45.tabQ (oA p L) (bV p) e.2.1/\e.2.1.length<=300
 nd:(B.map λe=>e.2.2).Nodup
 srt:(B.map λe=>e.2.1).Pairwise (klt L)
 cl:∀e∈B,∀k,k<L.length->e.1+prK L k<=b->∃e'∈B,e'.2.2=oA p L k e.2.2/\kle L e'.2.1 (e.2.1++[k])
 st:0<=b->∃e∈B,e.2.2=bV p/\kle L e.2.1 []
 all:∀row,gL L row->S45.prQ (prK L) row<=b->∃e∈B,e.2.2=S45.tabQ (oA p L) (bV p) row/\kle L e.2.1 row
theorem aHY{p:Int×Int}{L:List SK}{b:Int}{U:List (List Nat)}(hp:p∈bX)(S:StkOk p L)(F:vE L b U):aNJ p L b (bkQ p L b):=by
 have O:=aHx (p:=p) S.pr F;have nr:∀ {row:List Nat},gL L row->NOk p (nrQ p L row)/\jP p (nrQ p L row)=S45.tabQ (oA p L) (bV p) row:=λh=>yN hp (λs hs=>(S.st s hs).1) h
 have mem:∀ {e:Int×List Nat×List Nat},e∈bkF p L b->(e.1,e.2.1,jP p e.2.2)∈bkQ p L b:=λh=>aO.mpr ⟨_,h,rfl⟩
 refine⟨by unfold bkQ;rw[aB];exact O.len,λx hx=> ?_, ?_, ?_,λx hx k hk hle=> ?_,λh=> ?_,λrow ho hr=> ?_⟩
 ·obtain⟨e,he,rfl⟩:=aO.mp hx;obtain⟨h1,h2,h3,h4,h5⟩:=O.ent e he;exact⟨h1,h2,h3,by show jP p e.2.2=_;rw[h4];exact(nr h1).2,h5⟩
 ·unfold bkQ;rw[aV];have:(bkF p L b).map ((λe:Bk=>e.2.2) ∘ λe=>(e.1,e.2.1,jP p e.2.2))=((bkF p L b).map λe=>e.2.2).map (jP p):=by rw[aV];rfl
  rw[this];have q:=O.nd;unfold List.Nodup at q ⊢;rw[dQ];refine List.Pairwise.imp_of_mem (λ{a c} ha hc h z=>h ?_) q;obtain⟨e,he,rfl⟩:=aO.mp ha;obtain⟨e',he',rfl⟩:=aO.mp hc;have n1:=(nr (O.ent e he).1).1;have n2:=(nr (O.ent e' he').1).1;rw[<-(O.ent e he).2.2.2.1] at n1;rw[<-(O.ent e' he').2.2.2.1] at n2;exact aGC hp n1 n2 z
 ·unfold bkQ;rw[aV];exact O.srt
 ·obtain⟨e,he,rfl⟩:=aO.mp hx;obtain⟨e',he',h1,h2⟩:=O.cl e he k hk hle;obtain⟨o1,_,_,o4,_⟩:=O.ent e he;refine⟨_,mem he', ?_,h2⟩
  have ho:gL L (e.2.1++[k]):=λi hi=>by
   rcases bC.mp hi with hi|hi
   ·exact o1 i hi
   ·rw[aJ.mp hi];exact hk
  show jP p e'.2.2=oA p L k (jP p e.2.2);rw[h1,(nr ho).2,S45.tab_snoc,o4,(nr o1).2]
 ·obtain⟨e,he,h1,h2⟩:=O.st h;refine⟨_,mem he, ?_,h2⟩;show jP p e.2.2=bV p;rw[h1];exact aDA p
 ·obtain⟨e,he,h1,h2⟩:=O.all S.pr row ho hr;refine⟨_,mem he, ?_,h2⟩;show jP p e.2.2=_;rw[h1];exact(nr ho).2
theorem aDn{p:Int×Int}{L:List SK}(hp:p∈bX)(S:StkOk p L){row:List Nat}(h:gL L row):(S45.tabQ (oA p L) (bV p) row).length=(bV p).length:=by obtain⟨q1,q2⟩:=yN hp (λs hs=>(S.st s hs).1) h;rw[<-q2];unfold jP;rw[aB];exact q1.1
theorem aLB(e:Bk):pl (enD e)=true:=by show(true&&(plL (bY e.2.1)&&(plL (e.2.2.map bG)&&true)))=true;rw[(rV e.2.1).1,oZ];rfl
theorem aHs(e:Bk):dep (enD e)<=3:=by show max 0 (max (jK (bY e.2.1)+1) (max (jK (e.2.2.map bG)+1) 0))+1<=3;have:=nA e.2.2;rw[(rV e.2.1).2];omega
theorem aLa(q:SQ):pl (sqD q)=true/\dep (sqD q)=1:=by
 show pl (iY _ _ _ _)=true/\dep (iY _ _ _ _)=1;unfold iY
 split
 ·exact⟨rfl,rfl⟩
 ·split<;>exact⟨rfl,rfl⟩
theorem aLc(s:SK):pl (skD s)=true/\dep (skD s)<=2:=by
 refine⟨?_, ?_⟩
 ·show(pl (sqD s.1)&&(true&&true))=true;rw[(aLa s.1).1];rfl
 ·show max (dep (sqD s.1)) (max 0 0)+1<=2;rw[(aLa s.1).2];decide
theorem aLX(L:List SK):plL (L.map skD)=true/\jK (L.map skD)<=2:=⟨pB skD (λs=>(aLc s).1) L,nL skD 2 (λs=>(aLc s).2) L⟩
open PySem.W (KasT kas_sort)
def CanC(p:Int×Int)(c:List (List Int)):Prop:=((bV p).filter λf=>decide (f∈c))=c
section
variable {p:Int×Int}{τ:List Nat}{c d:List (List Int)}{W:List (Option (List (List Int)))}{T:List (List Int)}
structure WCan(p:Int×Int)(W:List (Option (List (List Int)))):Prop where
 len:W.length=(bV p).length
 ok:∀o∈W,∀c,o=some c->c≠[]/\CanC p c
end
theorem TupAt1.inj{h:BS}{v:BO}{x y:List Int}(a:TupAt1 h v x)(b:TupAt1 h v y):x=y:=by
 obtain⟨a1,o,n,its,rfl,g,c,d,i1,_⟩:=a;obtain⟨a2,o2,n2,its2,e,g2,c2,d2,i2,_⟩:=b;cases e;rw[g] at g2;cases g2;rw[d] at d2
 have e2:its=its2:=by
  injection d2 with q
  simpa using q
 subst e2
 have f:∀ {vs:List BO}{x y:List Int},IntsAre vs x->IntsAre vs y->x=y:=λ{vs}=>by
  induction vs with
  |nil=>intro x y p q;cases p;cases q;rfl
  |cons v vs ih=>
   intro x y p q;cases p with
   |cons n t p=>cases q with
    |cons m u q=>rw[ih p q]
 exact f i1 i2
noncomputable def rkV(h:BS)(rk:List Int->Nat)(v:BO):Nat:=open Classical in if q:∃x,TupAt1 h v x then rk (Classical.choose q) else 0
theorem aCK{h:BS}{rk:List Int->Nat}{v:BO}{x:List Int}(a:TupAt1 h v x):rkV h rk v=rk x:=by unfold rkV;have q:∃x,TupAt1 h v x:=⟨x,a⟩;rw[dif_pos q,(Classical.choose_spec q).inj a]
noncomputable def hG(k:List Key):List Int:=k.map λz=>match z with | .inl i=>i | .inr _=>0
theorem TupAt1.keep{h h':BS}{v:BO}{x:List Int}(p:TupAt1 h v x)(k:∀b o,o.cls=.type "tuple"->h.get? b=some o->h'.get? b=some o):TupAt1 h' v x:=by obtain⟨a,o,n,its,e,g,c,d⟩:=p;exact⟨a,o,n,its,e,k _ _ c g,c,d⟩
theorem aOH{h:BS}{a:BQ}{vs us:List BO}{n:Nat}(ho:h.get? a=some (Ab "list" us.toArray n)):∀b o,o.cls=.type "tuple"->h.get? b=some o->(iE h a vs).get? b=some o:=λb o c g=>by
 have nb:a≠b:=λz=>by subst z;rw[ho] at g;cases g;exact absurd (show Value.type "list"=Value.type "tuple" from c) (by decide)
 unfold iE;refine aD _ (aD _ ?_);rw[cI _ _ nb];exact g
theorem aJJ{h:BS}{T:List iR}(R:∀r∈T,TupAt1 h (.ref r.2.2) (hG r.2.1)):TupsAt h (T.map λr=>Value.ref r.2.2) (T.map λr=>hG r.2.1):=by
 induction T with
 |nil=>exact .nil
 |cons r T ih=>exact .cons (R r aH) (ih λq hq=>R q (aI _ hq))
section
variable {prog:AG}{w:AL}{A:BR}{E:BO->BP->Prop}{s:BP}
theorem wP{a:BQ}{T:List iR}{n:Nat}{rk:List Int->Nat}{R:PySem.Fin->BP->Prop}(ho:s.heap.get? a=some (Ab "list" (T.map λr=>Value.ref r.2.2).toArray n))(RI:∀r∈T,TupAt1 s.heap (.ref r.2.2) (hG r.2.1))(hn:T.length<=10000)
  (nd:(T.map λr=>rk (hG r.2.1)).Nodup) (hlt:∀x∈T,∀y∈T,ltI (hG x.2.1) (hG y.2.1)=decide (rk (hG x.2.1)<rk (hG y.2.1)))
  (h:∀T':List iR,T'.Perm T->(T'.map λr=>rk (hG r.2.1)).Pairwise (·<·)->R (.done (.ret .none)) {s with heap:=sortedHeap s.heap a (T.map λr=>Value.ref r.2.2) (T'.map λr=>Value.ref r.2.2).toArray}):AH (AE prog w) A (Builtin.«list.sort» ⟨[.ref a],[]⟩) R E s:=by
 obtain⟨vs,hvs⟩:∃vs,T.map (λr=>Value.ref r.2.2)=vs:=⟨_,rfl⟩;rw[hvs] at ho h;have R6:∀r∈T,TupAt1 (iE s.heap a vs) (.ref r.2.2) (hG r.2.1):=λr hr=>(RI r hr).keep (aOH ho)
 have T6:TupsAt (iE s.heap a vs) vs (T.map λr=>hG r.2.1):=by have:=aJJ R6;rw[hvs] at this;exact this
 have er:∀T':List iR,(∀r∈T',r∈T)->(T'.map λr=>Value.ref r.2.2).map (rkV (iE s.heap a vs) rk)=T'.map λr=>rk (hG r.2.1):=λT' hT=>by rw[aV];exact cM λr hr=>aCK (R6 r (hT r hr))
 have mv:∀x∈vs,∃r∈T,x=Value.ref r.2.2:=λx hx=>by rw[<-hvs] at hx;obtain⟨r,hr,e⟩:=aO.mp hx;exact⟨r,hr,e.symm⟩
 have lv:vs.length=T.length:=by rw[<-hvs,aB]
 have nv:(vs.map (rkV (iE s.heap a vs) rk)).Nodup:=by
  have:=er T λ_ z=>z
  rw[hvs] at this;rw[this];exact nd
 have hk0:2<=vs.length->∀Q:Ap->BP->Prop,Q (tuples' true) ⟨iE s.heap a vs,s.gens,s.drawn,s.toks,s.os⟩->AH (AE prog w) A (keyKind' vs.toArray) Q E ⟨iE s.heap a vs,s.gens,s.drawn,s.toks,s.os⟩:=λh2 Q q=>aOL (s:=⟨iE s.heap a vs,s.gens,s.drawn,s.toks,s.os⟩) T6 (by rw[aB];omega) q
 have ha0:∀x∈vs,∀y∈vs,∀ (Q:Bool->BP->Prop) (E':BO->BP->Prop),Q (decide (rkV (iE s.heap a vs) rk x<rkV (iE s.heap a vs) rk y)) ⟨iE s.heap a vs,s.gens,s.drawn,s.toks,s.os⟩->AH (AE prog w) A (keyLt' (tuples' true) x y) Q E' ⟨iE s.heap a vs,s.gens,s.drawn,s.toks,s.os⟩:=λx hx y hy Q E' q=>by obtain⟨u,hu,rfl⟩:=mv x hx;obtain⟨v,hv,rfl⟩:=mv y hy;refine askI (s:=⟨iE s.heap a vs,s.gens,s.drawn,s.toks,s.os⟩) (R6 u hu) (R6 v hv) ?_;rw[hlt u hu v hv];rw[aCK (R6 u hu),aCK (R6 v hv)] at q;exact q
 refine pY (κ:=tuples' true) (rk:=rkV (iE s.heap a vs) rk) ho nv (by omega) hk0 ha0 λout p1 p2=> ?_
 rw[<-hvs] at p1;obtain⟨T',q1,q2⟩:=oC (f:=λr:iR=>Value.ref r.2.2) (l:=T) (l':=out.toList) p1
 have e:out=(T'.map λr=>Value.ref r.2.2).toArray:=by apply kX.mp;rw[q2]
 rw[q2,er T' λr hr=>q1.mem_iff.mp hr] at p2;rw[e];exact h T' q1 p2
theorem aBT{S:BQ}{o:BZ}{T:List iR}{rk:List Int->Nat}{Q:BO->BP->Prop}(hh:A.handled=none)(ho:s.heap.get? S=some o)(sm:SetT prog w true o T)(l72:T.length<=72)(RI:∀r∈T,TupAt1 s.heap (.ref r.2.2) (hG r.2.1))
  (nd:(T.map λr=>rk (hG r.2.1)).Nodup) (hlt:∀x∈T,∀y∈T,ltI (hG x.2.1) (hG y.2.1)=decide (rk (hG x.2.1)<rk (hG y.2.1)))
  (h:∀ (h':BS) (tk:Nat) (D:BQ) (T':List iR) (n:Nat),(∀b x,s.heap.get? b=some x->h'.get? b=some x)->S<D->h'.get? D=some {cls:=.type "list",data:=.seq (T'.map λr=>Value.ref r.2.2).toArray n}->T'.Perm T->(T'.map λr=>rk (hG r.2.1)).Pairwise (·<·)->Q (.ref D) {s with heap:=h',toks:=tk}):
  AH (AE prog w) A (call (.builtin "sorted") [.ref S]) Q E s:=by
 obtain⟨es,ep,t,rfl,X,z,hled,hpl⟩:=sm;obtain⟨el,hel⟩:∃el,T.map (gT (tK prog w).hash)=el:=⟨_,rfl⟩;have ee:es=el.toArray:=by rw[<-hel];exact X.en
 have fit:=X.fit (z.fit X.om l72);have lel:el.length=T.length:=by rw[<-hel,aB]
 obtain⟨ks,hks⟩:∃ks,T.map (·.1)=ks:=⟨_,rfl⟩;have lks:ks.length=T.length:=by rw[<-hks,aB]
 have hk:TOk w el t ks:=⟨by rw[<-ee];exact fit,hpl rfl,hled,by rw[<-hks];exact X.pl,by rw[<-hks];exact X.rs,by rw[lel,lks]⟩;have ho':s.heap.get? S=some (soT el ep t):=by rw[ho,ee];rfl
 have pm:=yL (w:=w) (S:=S) (ep:=ep) el;have pm':=pm;rw[<-hel] at pm';obtain⟨T1,q1,q2⟩:=oC (f:=gT (tK prog w).hash) (l:=T) pm';rw[hel] at q2;have l1:T1.length=T.length:=q1.length_eq;have src:=srcW (prog:=prog) (ep:=ep) (S:=S) hk;clear ee ho;refine Calls.call_function_entry kind_sorted plain_sorted entry_sorted (args_sorted1 _) ?_;unfold Builtin.«sorted»;refine AA (m:=checkCount "sorted" 1 1 _) (AB (AA (PySem.W.kdu_collect src (by simpa using hh) ho' (by rw[lks,Ac];omega) λh1 tk acc kp it=> ?_)))
 have al:acc.toList=T1.map λr=>Value.ref r.2.2:=by
  have e0:T1.map (λr=>Value.ref r.2.2)=(oP w S ep el).map (·.2):=by rw[q2,aV];rfl
  rw[e0];apply nO;intro j
  by_cases hj:j<acc.toList.length
  ·have e3:acc.toList[j]? =some acc.toList[j]:=by simp[hj]
   obtain⟨c,q⟩:=it.2 j acc.toList[j] (by rw[<-dG];exact e3);rw[e3,bF,q];rfl
  ·have a1:acc.toList.length=ks.length:=by rw[cR];exact it.1
   rw[dW (by omega),dW (by rw[aB,q2,aB];omega)]
 have R1:∀r∈T1,TupAt1 (h1.push {cls:=.type "list",data:=.seq acc.toList.toArray}) (.ref r.2.2) (hG r.2.1):=λr hr=>(RI r (q1.mem_iff.mp hr)).keep λb x _ g=>aD _ (kp b x g)
 refine AA (wpAny_newList ?_ (by rw[al,aB,Ac];omega));have hoL:(h1.push {cls:=.type "list",data:=.seq acc.toList.toArray}).get? h1.objs.size=some (Ab "list" acc.toList.toArray 0):=aZ _ rfl;rw[al] at hoL R1 ⊢;refine AA (AV (AT PyProof.Rows.slot_list_sort ⟨_,hoL,rfl⟩ PyProof.Rows.entry_list_sort (wP (rk:=rk) (s:=⟨h1.push {cls:=.type "list",data:=.seq (T1.map λr=>Value.ref r.2.2).toArray},s.gens,s.drawn,tk,s.os⟩) hoL R1 (by omega) ((q1.map _).nodup_iff.mpr nd) (λx hx y hy=>hlt x (q1.mem_iff.mp hx) y (q1.mem_iff.mp hy)) λT' p1 p2=>⟨_,rfl,AB ⟨_,rfl, ?_⟩⟩) (args_list_sort _)));obtain⟨v1,hv1⟩:∃v1,T1.map (λr=>Value.ref r.2.2)=v1:=⟨_,rfl⟩;obtain⟨v2,hv2⟩:∃v2,T'.map (λr=>Value.ref r.2.2)=v2:=⟨_,rfl⟩;have fin:=λh' n2 a b c=>h h' tk h1.objs.size T' n2 a b c (p1.trans q1) p2
 rw[hv1] at hoL ⊢;rw[hv2] at fin ⊢
 have keep:∀ (b:BQ) (x:BZ),b≠h1.objs.size->h1.get? b=some x->(sortedHeap (h1.push {cls:=.type "list",data:=.seq v1.toArray}) h1.objs.size v1 v2.toArray).get? b=some x:=λb x hb g=>by unfold sortedHeap;rw[cI _ _ (Ne.symm hb)];refine aD _ (aD _ ?_);rw[cI _ _ (Ne.symm hb)];exact aD _ g
 obtain⟨n1,g1⟩:∃n1,((h1.push {cls:=.type "list",data:=.seq v1.toArray}).update h1.objs.size (Obj.mapSeq λ_=> #[])).get? h1.objs.size=some (Ab "list" #[] n1):=⟨_,BM hoL (λ_=> #[])⟩;obtain⟨n2,g2⟩:∃n2,(sortedHeap (h1.push {cls:=.type "list",data:=.seq v1.toArray}) h1.objs.size v1 v2.toArray).get? h1.objs.size=some (Ab "list" v2.toArray n2):=⟨_,BM (aD _ (aD _ g1)) (λ_=>v2.toArray)⟩;have le:S<h1.objs.size:=aK (kp _ _ ho');exact fin _ n2 (λb x g=>keep b x (λz=>absurd (aK (kp b x g)) (by rw[z];exact eA _)) (kp b x g)) le g2
end
section
variable {X:Cx}{sd:List Slot}{a b e:Expr}{pos:Pos}
theorem aGB{e:Expr}{p2 q2:Pos}{ks:List (List Key)}(hu:X.A.units+10<AQ)(hg2:Gl X "set")(hm2:X.mg "set"=none)(hi:∀k∈ks,∀z∈k,∃i,z=Sum.inl i)(h16:ks.length<=72)(hc:X.calm=true)(hst:AD [e] X.env=(false,eval e X.env)::AD [] X.env)
  (ha:PEd X sd e (.val (.lst (ks.map lV)))) {σ:St}{F H:Hp} (S:StF X.K X.B₀ F H σ sd) {pins:List (BQ×BZ)}{s:BP} (I:Inv X pins σ H s) {Q:BO->BP->Prop}
  (k:∀ (s0:BP) (h2:BS) (tk:Nat) (H1 F1:Hp) (o1:BZ) (T1:List iR),Inv X pins σ H1 s0->(∀b o,s0.heap.get? b=some o->h2.get? b=some o)->StF X.K X.B₀ F1 H1 σ sd->Same F F1->h2.get? s0.heap.objs.size=some o1->SetT X.prog X.w true o1 T1->(∀k,k∈T1.map (·.2.1)↔k∈ks)->(∀p∈T1.map (·.2),F1 p.2=some (.tup (p.1.map kV)))->Q (.ref s0.heap.objs.size) {s0 with heap:=h2,toks:=tk}):
  AH (AE X.prog X.w) X.A (eval (.Call (.Name "set" p2) [e] [] q2) X.env) Q X.xe s:=by
 refine Af (lU I hg2 hm2 PyProof.Rows.boot_set ?_);refine PyProof.Rows.callWith_type1 (thn ((fP (te:=wE X e) gR pa_nil hst) q2 pins s σ H (λus H1=>∃v F1,us=[v]/\StF X.K X.B₀ F1 H1 σ sd/\Same F F1/\ResOk X.K F1 H1 sd (.val (.lst (ks.map lV))) v) I ((ha σ F H S).imp λv H1 ⟨F1,S1,s1,q1⟩=>⟨v,F1,rfl,S1,s1,q1⟩)) λus s1 hus=> ?_) hst rfl;obtain⟨ws,H1,I1,rv,v,F1,rfl,S1,sF,q1⟩:=hus;obtain⟨u,rfl,ru⟩:=pA rv;simp only[ResOk,Rep] at q1;obtain⟨l,xs,rfl,hl,rl⟩:=q1;cases ru;obtain⟨its,rv2,ht0,hz⟩:=I1.list (.of (S1.sub _ _ hl));have ht:s1.heap.IsList l its.toArray:=ht0.isList;have lx:xs.length=ks.length:=by rw[rl.len,aB]
 have ln:its.length=ks.length:=by rw[<-rv2.length,lx]
 have item:∀ (i:Nat) (v:BO),its[i]? =some v->∃a,v=.ref a/\i<ks.length/\F1 a=some (.tup ((ks.getD i []).map kV)):=λi v hv'=>by
  have hi:i<ks.length:=by rw[<-ln];exact(aN.mp hv').1
  obtain⟨x,hx,rx⟩:=rl.get (i:=i) (d:=D.tup ((ks[i]).map kD)) (by rw[bF,cZ hi];rfl);obtain⟨u,hu',ru⟩:=rv2.get hx;rw[hv'] at hu';cases hu';simp only[Rep] at rx;obtain⟨a,ys,rfl,fa,ry⟩:=rx;have ey:=oX ry;subst ey;cases ru;have e:ks.getD i []=ks[i]:=by simp[bR,hi]
  exact⟨a,rfl,hi,by rw[e];exact fa⟩
 refine aOK (by omega) ks (ip:=true) (λ_=>hi) (by simpa using ln.symm) (by simpa[ln] using h16) (λi v hv=> ?_) (I1.ok.hd hc) ht λh' tk o' T kp g sm kt rt=> ?_
 ·obtain⟨a,rfl,hi,fa⟩:=item i v (by simpa using hv);exact⟨a,rfl,tJ I1.hok (S1.sub _ _ fa)⟩
 ·refine k s1 h' tk H1 F1 o' T I1 kp S1 sF g sm kt λp hp=> ?_
  obtain⟨i,hi,ei⟩:=rt p hp;obtain⟨a,ea,_,fa⟩:=item i _ (by simpa using hi);cases ea;rw[<-ei];exact fa
theorem mY(x:List Int):hG (kY x)=x:=by unfold hG kY;rw[aV];exact jG x
theorem aOs(x:List Int):(kY x).map kV=x.map V.int:=by unfold kY;rw[aV];rfl
theorem aOt(ps:List (List Int)):(ps.map kY).map lV=ps.map bG:=by rw[aV];exact cM λx _=>kY_D x
theorem zO(K:aA)(F:Hp):∀x:List Int,RepL K F (x.map D.int) (x.map V.int)
 |[]=>.nil
 |n::x=>.cons (by simp only[Rep]) (zO K F x)
theorem aAG{p p2 q2:Pos}{ps qs:List (List Int)}{rk:List Int->Nat}(hu:X.A.units+10<AQ)(hg:Gl X "sorted")(hm:X.mg "sorted"=none)(hg2:Gl X "set")(hm2:X.mg "set"=none)(ha:PEd X sd e (.val (.lst (ps.map bG))))(hne:∀x∈ps,x≠[])(h72:ps.length<=72)
  (hlt:∀x∈ps,∀y∈ps,ltI x y=decide (rk x<rk y)) (inj:∀x∈ps,∀y∈ps,rk x=rk y->x=y) (hq:∀x,x∈qs↔x∈ps) (hs:qs.Pairwise λx y=>rk x<rk y)
  (hc:X.calm=true:=by rfl) (hst:AD [e] X.env=(false,eval e X.env)::AD [] X.env:=by rfl) (hst2:AD [.Call (.Name "set" p2) [e] [] q2] X.env=(false,eval (.Call (.Name "set" p2) [e] [] q2) X.env)::AD [] X.env:=by rfl):
  PEd X sd (.Call (.Name "sorted" p) [.Call (.Name "set" p2) [e] [] q2] [] pos) (.own (qs.map bG)):=.mk λσ F H S pins s I=>by
 refine Af (lU I hg hm boot_sorted ?_);refine PyProof.Rows.callWith_builtin1 ?_ hst2 rfl;rw[hst2];refine Calls.spliced_cons ?_;have ha':PEd X sd e (.val (.lst ((ps.map kY).map lV))):=by rw[aOt];exact ha
 refine aGB hu hg2 hm2 (ks:=ps.map kY) (λk hk z hz=> ?_) (by rw[aB];exact h72) hc hst ha' S I λs0 h2 tk H1 F1 o1 T1 I1 kp S1 sF g sm kt rt=> ?_
 ·obtain⟨x,_,rfl⟩:=aO.mp hk;obtain⟨i,_,rfl⟩:=aO.mp hz;exact⟨i,rfl⟩
 ·refine Calls.spliced_nil ?_
  have row:∀r∈T1,∃x∈ps,r.2.1=kY x/\F1 r.2.2=some (.tup (x.map V.int)):=λr hr=>by have hk:=(kt r.2.1).mp (cN hr);obtain⟨x,hx,ex⟩:=aO.mp hk;refine⟨x,hx,ex.symm, ?_⟩;have:=rt r.2 (cN hr);rw[<-ex,aOs] at this;exact this
  have knd:=sm.nd
  have l72:T1.length<=72:=by
   have:=knd.length_le_of_subset (l₂:=ps.map kY) λk hk=>(kt k).mp hk
   rw[aB,aB] at this;omega
  have RI:∀r∈T1,TupAt1 h2 (.ref r.2.2) (hG r.2.1):=λr hr=>by
   obtain⟨x,hx,e1,f1⟩:=row r hr
   have rp:Rep X.K H1 (bG x) (.ref r.2.2):=by simp only[bG,Rep];exact⟨_,_,rfl,S1.sub _ _ f1,zO _ _ x⟩
   obtain⟨b,ys,its,e2,e3,r2,v2,o,g2,c,n,hd⟩:=iS I1.hok rp (show RelV (.ref r.2.2) (.ref r.2.2) from rfl);cases e2;cases e3;have e4:=(show RepL X.K H1 (x.map D.int) ys from r2).ints;subst e4;rw[e1,mY];exact⟨_,o,n,its,rfl,kp _ _ g2,c,hd,aDj v2,hne x hx⟩
  have ki:∀r∈T1,hG r.2.1∈ps:=λr hr=>by obtain⟨x,hx,e1,_⟩:=row r hr;rw[e1,mY];exact hx
  have nd:(T1.map λr=>rk (hG r.2.1)).Nodup:=by
   have e:T1.map (λr=>rk (hG r.2.1))=(T1.map (·.2.1)).map λk=>rk (hG k):=by rw[aV];rfl
   rw[e];unfold List.Nodup;rw[dQ];refine List.Pairwise.imp_of_mem (λ{k1 k2} m1 m2 q z=>q ?_) knd;obtain⟨x,hx,ex⟩:=aO.mp ((kt k1).mp m1);obtain⟨y,hy,ey⟩:=aO.mp ((kt k2).mp m2);rw[<-ex,<-ey,mY,mY] at z;rw[<-ex,<-ey,inj x hx y hy z]
  refine aBT (s:={s0 with heap:=h2,toks:=tk}) (rk:=rk) (I1.ok.hd hc) g sm l72 RI nd (λx hx y hy=>hlt _ (ki x hx) _ (ki y hy)) λh3 tk3 dd T' n kp3 le g3 pm pw=> ?_
  have eT:T'.map (λr=>hG r.2.1)=qs:=by
   refine List.Perm.eq_of_pairwise (le:=fun x y=>rk x<rk y) (fun x y _ _ h1 h2=>by omega) (by
    have:=pw;rw[dQ] at this;rw[dQ]
    exact this) hs ?_
   have n1:(T'.map λr=>hG r.2.1).Nodup:=by have:=pw;rw[dQ] at this;unfold List.Nodup;rw[dQ];exact this.imp λ{x y} q z=>by rw[z] at q;omega
   have n2:qs.Nodup:=hs.imp λ{x y} q z=>by rw[z] at q;omega
   refine(zI n1 n2).mpr λx=> ?_
   rw[hq]
   constructor
   ·intro hx;obtain⟨r,hr,rfl⟩:=aO.mp hx;exact ki r (pm.mem_iff.mp hr)
   ·intro hx;have:=(kt (kY x)).mpr (cN hx);obtain⟨r,hr,er⟩:=aO.mp this;refine aO.mpr ⟨r,pm.mem_iff.mpr hr, ?_⟩;rw[er,mY]
  have le2:s0.heap.objs.size<=dd:=cW le;have hD:H1 dd=none:=I1.hok.fresh le2;have lT:T'.length<=72:=by rw[pm.length_eq];exact l72
  have vv:Vals (T'.map λr=>V.ref r.2.2) (T'.map λr=>Value.ref r.2.2):=by
   generalize T'=U
   induction U with
   |nil=>exact .nil
   |cons r U ih=>exact .cons rfl ih
  have I3:Inv X pins σ (upd H1 dd (.lst (T'.map λr=>V.ref r.2.2))) {s0 with heap:=h3,toks:=tk3}:=
   I1.laid (λb o g=>kp3 b o (kp b o g)) le2 ⟨by rw[Ac,aB];omega,_,n,vv,g3⟩
  obtain⟨S4,fp,no⟩:=S1.layO (xs:=T'.map λr=>V.ref r.2.2) hD;refine⟨.ref dd,_,I3,rfl,F1,S4,sF,dd,_,rfl,fp,cD, ?_,no⟩;rw[<-eT,aV];have rT:∀r∈T',r∈T1:=λr hr=>pm.mem_iff.mp hr
  clear vv I3 S4 fp no g3 eT lT pw pm
  induction T' with
  |nil=>exact .nil
  |cons r U ih=>refine .cons ?_ (ih λq hq=>rT q (aI _ hq));obtain⟨x,hx,e1,f1⟩:=row r (rT r aH);show Rep X.K F1 (bG (hG r.2.1)) (.ref r.2.2);rw[e1,mY];simp only[bG,Rep];exact⟨_,_,rfl,f1,zO _ _ x⟩
end
theorem aIK:∀p∈bX,∀f∈bV p,∀g∈bV p,ltI f g=decide (nF p f<nF p g):=by decide+kernel
theorem aDC{p:Int×Int}(hp:p∈bX):(bV p).Pairwise λa b=>nF p a<nF p b:=by
 rw[jN];intro i j hi hj hij;have a:=vX hp hi;have b:=vX hp hj;have ea:(bV p).getD i []=(bV p)[i]:=by simp[bR,hi]
 have eb:(bV p).getD j []=(bV p)[j]:=by simp[bR,hj]
 rw[ea] at a;rw[eb] at b;omega
theorem aDK{p:Int×Int}(hp:p∈bX):(bV p).Nodup:=(aDC hp).imp λ{a b} h e=>by rw[e] at h;omega
theorem aFM{p:Int×Int}(hp:p∈bX){f g:List Int}(hf:f∈bV p)(hg:g∈bV p)(h:nF p f=nF p g):f=g:=by have a:=(wZ hp (kP hp hf)).2.2;have b:=(wZ hp (kP hp hg)).2.2;rw[<-a,<-b,h]
structure ChN(A c:List (List Int)):Prop where
 ne:c≠[]
 nd:c.Nodup
 sub:∀f∈c,f∈A
theorem ChN.le{A c:List (List Int)}(h:ChN A c):c.length<=A.length:=h.nd.length_le_of_subset h.sub
structure WN(A:List (List Int))(W:List (Option (List (List Int)))):Prop where
 len:W.length=A.length
 ok:∀o∈W,∀c,o=some c->ChN A c
theorem WN.wish{p:Int×Int}(hp:p∈bX){W:List (Option (List (List Int)))}(h:WN (bV p) W):qQ p W:=by refine⟨h.len,λo ho L hL=> ?_⟩;have k:=h.ok o ho L hL;have f9:(bV p).length<=64:=lI hp;have:=k.le;exact⟨gP.mpr k.ne,by omega,λws hw=>kP hp (k.sub ws hw)⟩
noncomputable def rP(L:List SK)(b:Int):List Nat->List Int->List Nat
 |q,[]=>q
 |q,c::cs=>if b<S45.prQ (prK L) (q++[pU L c]) then q else rP L b (q++[pU L c]) cs
theorem aDH{L:List SK}{b:Int}(hL:0<L.length):∀ (cs:List Int) {q:List Nat},gL L q->S45.prQ (prK L) q<=b->gL L (rP L b q cs)/\S45.prQ (prK L) (rP L b q cs)<=b/\(rP L b q cs).length<=q.length+cs.length
 |[],q,h1,h2=>⟨h1,h2,aM _⟩
 |c::cs,q,h1,h2=>by
  show gL L (if b<S45.prQ (prK L) (q++[pU L c]) then q else rP L b (q++[pU L c]) cs)/\S45.prQ (prK L) (if b<S45.prQ (prK L) (q++[pU L c]) then q else rP L b (q++[pU L c]) cs)<=b/\(if b<S45.prQ (prK L) (q++[pU L c]) then q else rP L b (q++[pU L c]) cs).length<=q.length+(c::cs).length
  by_cases h:b<S45.prQ (prK L) (q++[pU L c])
  ·rw[if_pos h];exact⟨h1,h2,by omega⟩
  ·rw[if_neg h]
   obtain ⟨a1,a2,a3⟩:=aDH hL cs (q:=q++[pU L c]) (fun i hi=>by
    rcases bC.mp hi with hi|hi
    ·exact h1 i hi
    ·rw[aJ.mp hi]
     exact aDV hL c) (Int.not_lt.mp h)
   refine⟨a1,a2, ?_⟩;rw[bB] at a3;simp at a3 ⊢;omega
noncomputable def wH(L:List SK)(b:Int)(ns:List Int)(st:Nat):List Nat:=rP L b [] (ns.drop st)
theorem aGE{L:List SK}{b:Int}(hL:0<L.length)(hb:0<=b){ns:List Int}(h63:ns.length<=63)(st:Nat):gL L (wH L b ns st)/\S45.prQ (prK L) (wH L b ns st)<=b/\(wH L b ns st).length<=63:=by obtain⟨a1,a2,a3⟩:=aDH (b:=b) hL (ns.drop st) (q:=[]) (λi hi=>(nomatch hi)) hb;refine⟨a1,a2,cO a3 ?_⟩;rw[gW];simp;omega
def aHL:List D->R->Prop:=λds r=>∃ns st p L b,StkOk p L/\0<=b/\st<=100/\ns.length<=63/\(∀i∈ns,aIq i)/\ds=[.scr ns,.int ((st:Nat):Int),.lst (L.map skD),.int b]/\r=.val (.tup (bY (wH L b ns st)))
noncomputable def tU(p:Int×Int)(f:List Int)(n:Int):Option (List (List Int)):=
 if n%5=0 then none else if n%5<3 then some [f] else if n%5=3 then some ((bV p).filter λg=>decide (g.getD (n / 5%p.2).toNat 0=f.getD (n / 5%p.2).toNat 0))
 else some ((bV p).filter λg=>decide (g∈[f,(bV p).getD (n / 40%((bV p).length:Int)).toNat []]))
def aLg:List D->R->Prop:=λds r=>∃p f n,p∈bX/\f∈bV p/\ds=[cS p,bG f,.int n]/\r=.val (wsD (tU p f n))
theorem aKa{p:Int×Int}(hp:p∈bX){f:List Int}(hf:f∈bV p)(n:Int):∀c,tU p f n=some c->ChN (bV p) c:=λc hc=>by
 unfold tU at hc
 by_cases h0:n%5=0
 ·rw[if_pos h0] at hc;cases hc
 ·rw[if_neg h0] at hc
  by_cases h1:n%5<3
  ·rw[if_pos h1] at hc;obtain rfl:=cC.inj hc;exact⟨by simp,by simp,λx hx=>by rw[aJ.mp hx];exact hf⟩
  ·rw[if_neg h1] at hc
   by_cases h3:n%5=3
   ·rw[if_pos h3] at hc;obtain rfl:=cC.inj hc;have hm:f∈(bV p).filter λg=>decide (g.getD (n / 5%p.2).toNat 0=f.getD (n / 5%p.2).toNat 0):=fG.mpr ⟨hf,by simp⟩
    exact⟨λz=>(cV (z▸hm)).elim,(aDK hp).sublist aFk,λx hx=>(fG.mp hx).1⟩
   ·rw[if_neg h3] at hc;obtain rfl:=cC.inj hc;have hm:f∈(bV p).filter λg=>decide (g∈[f,(bV p).getD (n / 40%((bV p).length:Int)).toNat []]):=fG.mpr ⟨hf,by simp⟩
    exact⟨λz=>(cV (z▸hm)).elim,(aDK hp).sublist aFk,λx hx=>(fG.mp hx).1⟩
noncomputable def yP(T:List (List Int))(a:Int)(n:Int)(k:Nat):List Int:=if a%6=1 then T.getD (n / 7%(T.length:Int)).toNat [] else T.getD k []
noncomputable def sD(p:Int×Int)(T:List (List Int))(ns:List Int)(st:Nat)(t:Nat):List (Option (List (List Int))):=(bK t).map λk=>tU p (yP T (ns.getD st 0) (mxS (ns.getD (st+1+k) 0) (70+k)) k) (mxS (ns.getD (st+1+k) 0) (70+k))
noncomputable def aCv(p:Int×Int)(T:List (List Int))(ns:List Int)(st:Nat):List (Option (List (List Int))):=sD p T ns st T.length
def aLD:List D->R->Prop:=λds r=>∃p T ns st,p∈bX/\T.length=(bV p).length/\(∀f∈T,f∈bV p)/\st<=100/\ds=[.scr ns,.int ((st:Nat):Int),cS p,.tup (T.map bG)]/\r=.own ((aCv p T ns st).map wsD)
theorem aBO(p:Int×Int)(T:List (List Int))(ns:List Int)(st t:Nat):sD p T ns st (t+1)=sD p T ns st t++[tU p (yP T (ns.getD st 0) (mxS (ns.getD (st+1+t) 0) (70+t)) t) (mxS (ns.getD (st+1+t) 0) (70+t))]:=by unfold sD;rw[aKK,aP];rfl
theorem aDB{p:Int×Int}{T:List (List Int)}(hT:∀f∈T,f∈bV p)(a n:Int){k:Nat}(hk:k<T.length):yP T a n k∈bV p:=by
 unfold yP
 split
 ·exact hT _ (getD_mem (gE _ (by omega)).1)
 ·exact hT _ (getD_mem hk)
theorem aFP{p:Int×Int}(hp:p∈bX){T:List (List Int)}(hl:T.length=(bV p).length)(hT:∀f∈T,f∈bV p)(ns:List Int)(st:Nat):WN (bV p) (aCv p T ns st):=by refine⟨by unfold aCv sD;rw[aB,eM];exact hl,λo ho c hc=> ?_⟩;obtain⟨k,hk,rfl⟩:=aO.mp ho;exact aKa hp (aDB hT _ _ (bP.mp hk)) _ c hc
def aLb:List D->R->Prop:=λds r=>∃p w T,p∈bX/\qQ p w/\zF p T/\ds=[.lst (w.map wsD),.tup (T.map bG)]/\r=.val (.bl (pZ w (bV p) T).isNone)
noncomputable def doQ(p:Int×Int)(w:List (Option (List (List Int))))(T:List (List Int)):Bool:=(pZ w (bV p) T).isNone
noncomputable def ftQ(p:Int×Int)(w:List (Option (List (List Int))))(B:List Bk):Option Bk:=B.find? λe=>doQ p w e.2.2
noncomputable def oeD:Option Bk->D
 |none=>.non
 |some e=>enD e
noncomputable def lrD(p:Int×Int)(w:List (Option (List (List Int))))(B:List Bk):D:=match ftQ p w B with
 |none=>.tup [.str "none",.lst (B.map enD)]
 |some e=>.tup [.str "row",.tup (bY e.2.1),.lst ((B.filter λx=>decide (x.1<e.1)).map enD)]
def aLy:List D->R->Prop:=λds r=>∃p L b B w,p∈bX/\StkOk p L/\aNJ p L b B/\qQ p w/\ds=[cS p,.lst (B.map enD),.lst (w.map wsD)]/\r=.val (oeD (ftQ p w B))
theorem aCY{p:Int×Int}{L:List SK}(hp:p∈bX)(S:StkOk p L){row:List Nat}(h:gL L row):zF p (S45.tabQ (oA p L) (bV p) row):=⟨aDn hp S h,λws hw=>kP hp (vH hp S h ws hw)⟩
def tlG(K:aA)(ds ls:List D):V->List BQ->Hp->Hp->Prop:=λv as F H=>∃t l us xs,v=.ref t/\as=[l]/\F t=some (.tup (us++[.ref l]))/\RepL K F ds us/\H l=some (.lst xs)/\RepL K F ls xs
noncomputable def tlR(K:aA)(ds ls:List D):R:=.ox (tlG K ds ls)
section
variable {X:Cx}{sd:List Slot}{e e1 e2 a b c tg iter o:Expr}{es:List Expr}{pos:Pos}{r ra rb:R}{d d':D}{ds ls:List D}{st:BU}{rest:List BU}{E:jR}
theorem aHZ{K:aA}{H₀ F H:Hp}{σ:St}{us xs:List V}{l p:BQ}(S:StF K H₀ F H σ sd)(hp:H p=none)(n:F l=none)(q:H l=some (.lst xs))(ru:RepL K F ds us)(rl:RepL K F ls xs):∃F',Same H₀ F'/\Same F' (upd H p (.tup (us++[.ref l])))/\Smp (upd H p (.tup (us++[.ref l])))/\ResOk K F' (upd H p (.tup (us++[.ref l]))) [] (tlR K ds ls) (.ref p):=by
 obtain⟨S2,s2⟩:=S.lay (o:=.tup (us++[.ref l])) hp trivial;have ne:l≠p:=cH q hp;refine⟨_,S2.base,S2.sub,S2.smp,[l],by simp,λl' hl=> ?_,λF' H' sF k=> ?_⟩
 ·rw[aJ.mp hl];exact⟨by rw[bO ne];exact n,⟨.lst xs,by rw[bO ne];exact q,trivial⟩,by simp[cE]⟩
 ·exact⟨p,l,us,xs,rfl,rfl,sF _ _ cD,(ru.mono s2).mono sF,k l (by simp) _ (by rw[bO ne];exact q),(rl.mono s2).mono sF⟩
theorem aEh(i:Nat){x:Str}{p p2:Pos}{l:BQ}{x1}(hs:sd[i]? =some (.own l ls))(hx:PE X (.Name x p) (lH i))(h:PEd X sd e (.val d))(hE:E.rt (tlR X.K [d] ls))
  (hst:AD [e, .Name x p] X.env=(false,eval e X.env)::AD [.Name x p] X.env:=by rfl) (hst2:AD [.Name x p] X.env=(false,eval (.Name x p) X.env)::AD [] X.env:=by rfl):PSd1 X sd (.Return (some (.Tuple [e, .Name x p] x1 p2)) pos) E:=.mk λσ F H S=>
 (aAT (zR (fP gR (fP hx pa_nil hst2) hst))).to ((h σ F H S).imp fun v H1 ⟨F1,S1,s1,q1⟩=>by
  obtain⟨o',h1,h2,n,xs,q,rl⟩:=S1.slots.get hs;refine⟨.ref l,by rw[h1,h2],cW (fX (show 2<=1000 by decide)),λp hp=> ?_⟩
  exact⟨tlR X.K [d] ls,aHZ (us:=[v]) S1 hp n q (.one q1) rl,hE⟩)
theorem aET{p2:Pos}{x1}(h:PEd X sd e (.val d))(h1:PEd X sd e1 (.val d'))(h2:PEd X sd e2 (.own ls))(hE:E.rt (tlR X.K [d,d'] ls))
  (hst:AD [e,e1,e2] X.env=(false,eval e X.env)::AD [e1,e2] X.env:=by rfl) (hst1:AD [e1,e2] X.env=(false,eval e1 X.env)::AD [e2] X.env:=by rfl) (hst2:AD [e2] X.env=(false,eval e2 X.env)::AD [] X.env:=by rfl):PSd1 X sd (.Return (some (.Tuple [e,e1,e2] x1 p2)) pos) E:=.mk λσ F H S=>
 (aAT (zR (fP gR (fP gR (fP gR pa_nil hst2) hst1) hst))).to ((h σ F H S).imp fun v H1 ⟨F1,S1,s1,q1⟩=>(h1 σ F1 H1 S1).imp fun v2 H2 ⟨F2,S2,s2,q2⟩=>(h2 σ F2 H2 S2).imp fun v3 H3 ⟨F3,S3,s3,l,xs,e3,n,q,rl,_⟩=>by
  subst e3;refine⟨cW (fX (show 3<=1000 by decide)),λp hp=> ?_⟩
  exact⟨tlR X.K [d,d'] ls,aHZ (us:=[v,v2]) S3 hp n q (.cons (Rep.mono s3 (Rep.mono s2 q1)) (.one (Rep.mono s3 q2))) rl,hE⟩)
theorem aIc{K:aA}{F F':Hp}{us xs:List V}{t l:BQ}(ft:F t=some (.tup (us++[.ref l])))(ru:RepL K F ds us)(rl:RepL K F ls xs)(s:Same F F')(ll:F' l=some (.lst xs)):Rep K F' (.tup (ds++[.lst ls])) (.ref t):=by simp only[Rep];refine⟨t,us++[.ref l],rfl,s _ _ ft,(ru.mono s).app (.one ?_)⟩;simp only[Rep];exact⟨l,xs,rfl,ll,rl.mono s⟩
theorem PEd.valT(h:PEd X sd e (tlR X.K ds ls)):PEd X sd e (.val (.tup (ds++[.lst ls]))):=.mk λσ F H S=>(h σ F H S).imp λv H' ⟨F',S',s,as,nd,q,g⟩=>by
 obtain⟨t,l,us,xs,rfl,rfl,ft,ru,hl,rl⟩:=g F' H' (Same.refl _) λ_ _ _ e=>e
 obtain⟨n,_,no⟩:=q l (by simp);obtain⟨S2,s2⟩:=S'.freeze hl n no;exact⟨_,S2,s.trans s2,aIc ft ru rl s2 cD⟩
theorem aGP(i:Nat){x:Str}{p:Pos}(hN:X.N.Nodup)(hi:X.N[i]? =some x)(hx:Loc X.env.scope x)(h:PEd X sd e (tlR X.K ds ls))
  (hE:∀ (F0:Hp) (t l:BQ) (us:List V),Same X.B₀ F0->F0 l=none->F0 t=some (.tup (us++[.ref l]))->us.length=ds.length->E.nx ((sd.map (gst X.K F0)).set i (.gh (.tup (ds++[.lst ls])) λv F=>v=.ref t/\Same F0 F))) (hs:Ak e (some (.Name x p)) pos.line X.env=pure false:=by rfl)
  (hf:X.fn x=true\/X.env.scope.names.lookup x=some .local:=by first|exact .inl rfl|exact .inr rfl|assumption):PSd1 X sd (.Assign [.Name x p] e pos) E:=.mk λσ F H S=>
 (qR hN hi hx gR hs hf).to ((h σ F H S).imp fun v H' ⟨F',S',s',as,nd,q,g⟩=>by
  obtain⟨t,l,us,xs,rfl,rfl,ft,ru,hl,rl⟩:=g F' H' (Same.refl _) λ_ _ _ e=>e
  obtain⟨n,_,no⟩:=q l (by simp);have S1:StF X.K X.B₀ F' H' σ (sd.map (gst X.K F')):=⟨S'.base,S'.sub,S'.smp,aHP S'.slots,by rw[jU];exact S'.nd⟩;obtain⟨S2,s2⟩:=S1.freeze hl n (by rw[jU];exact no)
  exact⟨_,_,S2.setG (d:=.tup (ds++[.lst ls])) (v:=.ref t) (G:=λv F=>v=.ref t/\Same F' F) i (aIc ft ru rl s2 cD) λF2 s3=>⟨rfl,s2.trans s3⟩,s'.trans s2,hE F' t l us S'.base n ft ru.len⟩)
theorem aIS(i:Nat){x:Str}{p p3 p4 p5 ap cp:Pos}{j3}{F0:Hp}{t l:BQ}{us:List V}{sd2:List Slot}(hb:Same X.B₀ F0)(hl:F0 l=none)(ht:F0 t=some (.tup (us++[.ref l])))(hul:us.length=ds.length)(hs:sd[i]? =some (.gh (.tup (ds++[.lst ls])) λv F=>v=.ref t/\Same F0 F))(hx:PE X (.Name x p) (lH i))
  (h:PEd X sd e (.val d')) (h1000:ls.length<=1000) (hg:GLe X.K F0 sd sd2) (k:PSd X sd2 rest {nx:=λ_=>False,rt:=E.rt})
  (hpx:lZ (.UnaryOp .USub (.Constant (.int 1) j3 p3) p5):=by exact λ_ _=>rfl)
  (hm:PE X (.Call (.Attribute (.Subscript (.Name x p) (.UnaryOp .USub (.Constant (.int 1) j3 p3) p5) p4) "append" ap) [e] [] cp) (tBM X.K "list" rZ (wE X (.Subscript (.Name x p) (.UnaryOp .USub (.Constant (.int 1) j3 p3) p5) p4)) (oW (wE X e) aFr)):=by exact aFG jX mW mX sQ gR (fP gR pa_nil))
  (hsw:Ak (.Call (.Attribute (.Subscript (.Name x p) (.UnaryOp .USub (.Constant (.int 1) j3 p3) p5) p4) "append" ap) [e] [] cp) none pos.line X.env=pure false:=by rfl):
  PSd X sd (.Expr (.Call (.Attribute (.Subscript (.Name x p) (.UnaryOp .USub (.Constant (.int 1) j3 p3) p5) p4) "append" ap) [e] [] cp) pos::rest) E:=.mk λσ F H S=>
 (aAY (rJ hm hsw) rA).to (by
  have at':∀ {F H:Hp},StF X.K X.B₀ F H σ sd->Same F0 F/\∃xs,F l=some (.lst xs)/\xs.length=ls.length:=λ{F H} S=>by
   obtain⟨o,h1,v,h2,q,g⟩:=S.slots.get hs;obtain⟨rfl,s⟩:=g F (Same.refl _);simp only[Rep] at q;obtain⟨t',vs,e,q,rl⟩:=q;cases e;rw[s _ _ ht] at q;cases q;obtain⟨z,hz,rz⟩:=rl.get (show(ds++[D.lst ls])[ds.length]? =some (.lst ls) by simp)
   have:z=.ref l:=by rw[<-hul] at hz;simpa using hz.symm
   subst this;simp only[Rep] at rz;obtain⟨l',xs,e,q,rl⟩:=rz;cases e;exact⟨s,xs,q,rl.len⟩
  have hr:wE X (.Subscript (.Name x p) (.UnaryOp .USub (.Constant (.int 1) j3 p3) p5) p4) σ H fun v H'=>v= .ref l∧H'=H:=(aCx aCB hx (aKX aHQ pe_int) hpx).to (by
   obtain⟨o,h1,v,h2,q,g⟩:=S.slots.get hs;obtain⟨rfl,s⟩:=g F (Same.refl _)
   exact⟨.ref t,by rw[h1,h2],1,rfl,t,_, -1,.ref l,rfl,rfl,.of (S.sub _ _ (s _ _ ht)),L2.atI_last _ _,rfl,rfl⟩)
  refine hr.imp λv H' ⟨e1,e2⟩=> ?_
  subst e1 e2;obtain⟨s0,xs,q,_⟩:=at' S;refine⟨.inl ⟨rfl,xs,.of (S.sub _ _ q)⟩,(h σ F H' S).imp λu H1 ⟨F1,S1,s1,q1⟩=> ?_⟩;obtain⟨s2,xs1,q2,len⟩:=at' S1;refine⟨l,xs1,u,rfl,rfl,S1.sub _ _ q2,by rw[len];exact fX h1000, ?_⟩;obtain⟨c1,c2⟩:=hg.slots (H':=upd H1 l (.lst (xs1++[u]))) S1.slots
  have S3:StF X.K X.B₀ F0 (upd H1 l (.lst (xs1++[u]))) σ sd2:=⟨hb,fun b u e=>by
   rw[bO (cH e hl)];exact S1.sub _ _ (s2 _ _ e),λb u e=>by
   by_cases h:b=l
   ·subst h;rw[cD] at e;cases e;trivial
   ·rw[bO h] at e
    exact S1.smp _ _ e,c1,by rw[c2];exact eQ⟩
  exact(k σ F0 _ S3).imp (λ_ _ ⟨_,_,_,_,z⟩=>z.elim) (λ_ _ z=>z) (λ_ _ ⟨_,_,_,_,z⟩=>z.elim) λ_ _ ⟨_,_,_,_,z⟩=>z.elim)
theorem aJf{i:Int}(ha:PEd X sd a (.val (.tup ds)))(hb:PEd X sd b (.val (.int i)))(hd:atI ds i=some d)(hs:lZ b):PEd X sd (.Subscript a b pos) (.val d):=.mk λσ F H S=>
 (aCx aCB gR gR hs).to ((ha σ F H S).imp fun v H1 ⟨F1,S1,s1,q1⟩=>(hb σ F1 H1 S1).imp fun u H2 ⟨F2,S2,s2,q2⟩=>by
  have q1:=Rep.mono s2 q1;simp only[ResOk,Rep] at q1 q2;obtain⟨p,xs,e1,hp,rl⟩:=q1;obtain⟨w,hw,rw'⟩:=rl.atI hd
  exact⟨p,xs,i,w,e1,q2,.of (S2.sub _ _ hp),hw,F2,S2,s1.trans s2,rw'⟩)
end
def FI(K:aA)(mg:Str->Option BO)(n:Str)(st:BU):Prop:=∃f fd,mg n=some (.ref f)/\Fun K n n st f fd
theorem FI.mk{K:aA}{h:BS}{mg:Str->Option BO}{n:Str}{st:BU}{od an:Option BQ}{sl:Array (Option BO)}{oc kV dc pm cd ct:BO}{f:BQ}(X:K.In h)(G:h.Ns AO mg)(a:eI K AO n=some (some (.ref f)))(l:K.lookup f=some ⟨oc,od,.func (gB n n (kR st) (iK st) (bI st) .none kV dc pm an cd ct),sl⟩)(c:kF K cd n=true)(k:eE K (.ref f)=true):FI K mg n st:=⟨f,_,qF X G a,aHU (st:=st) l c k⟩
noncomputable def lrR(K:aA)(p:Int×Int)(w:List (Option (List (List Int))))(B:List Bk):R:=match ftQ p w B with
 |none=>tlR K [.str "none"] (B.map enD)
 |some e=>tlR K [.str "row",.tup (bY e.2.1)] ((B.filter λx=>decide (x.1<e.1)).map enD)
def aLd(K:aA):List D->R->Prop:=λds r=>∃p L b U w,p∈bX/\StkOk p L/\(L.map λs=>sqD s.1).Nodup/\vE L b U/\qQ p w/\ds=[cS p,.lst (L.map skD),.int b,.lst (w.map wsD)]/\r=lrR K p w (bkQ p L b)
def aIa:List D->R->Prop:=λds r=>∃p L b B w,p∈bX/\StkOk p L/\aNJ p L b B/\qQ p w/\ds=[.lst (B.map enD),.lst (w.map wsD)]/\r=.val (lrD p w B)
theorem aJo(K:aA){p:Int×Int}{w:List (Option (List (List Int)))}{B:List Bk}(hB:B.length<=400):∃ds ls,lrR K p w B=tlR K ds ls/\lrD p w B=.tup (ds++[.lst ls])/\ls.length<=400/\pl (.tup (ds++[.lst ls]))=true/\dep (.tup (ds++[.lst ls]))<=5:=by
 unfold lrR lrD;cases ftQ p w B with
 |none=>
  have h1:=pB enD aLB B;have h2:=nL enD 3 aHs B;refine⟨_,_,rfl,rfl,by rw[aB];exact hB, ?_, ?_⟩
  ·show(true&&(plL (B.map enD)&&true))=true;rw[h1];rfl
  ·show max 0 (max (jK (B.map enD)+1) 0)+1<=5;omega
 |some e=>
  have h1:=pB enD aLB (B.filter λx=>decide (x.1<e.1));have h2:=nL enD 3 aHs (B.filter λx=>decide (x.1<e.1));obtain⟨h3,h4⟩:=rV e.2.1;refine⟨_,_,rfl,rfl,by rw[aB];exact cO (aCr _ _) hB, ?_, ?_⟩
  ·show(true&&(plL (bY e.2.1)&&(plL ((B.filter λx=>decide (x.1<e.1)).map enD)&&true)))=true;rw[h1,h3];rfl
  ·show max 0 (max (jK (bY e.2.1)+1) (max (jK ((B.filter λx=>decide (x.1<e.1)).map enD)+1) 0))+1<=5;rw[h4];omega
theorem aIW(L:List SK)(w:List (Option (List (List Int)))):pl (.lst [.lst (L.map skD),.lst (w.map wsD)])=true/\dep (.lst [.lst (L.map skD),.lst (w.map wsD)])<=4:=by
 obtain⟨h1,h2⟩:=aLX L;have h3:=aLN w;have h4:=nL wsD 2 aMD w;refine⟨?_, ?_⟩
 ·show(plL (L.map skD)&&(plL (w.map wsD)&&true))=true;rw[h1,h3];rfl
 ·show max (jK (L.map skD)+1) (max (jK (w.map wsD)+1) 0)+1<=4;omega
end DL
set_option maxHeartbeats 400000
namespace K50
open PySem PySem.Spec PyProof.Rows L2 DL
noncomputable def top(i:Nat):BU:=PySem.Challenge.pw_leastrow_k50_least_rows.main.body.getD i (.Pass ⟨0,0,0,0⟩)
noncomputable abbrev aHO:BU:=top 4
noncomputable abbrev aCy:BU:=top 5
noncomputable abbrev aLm:BU:=top 6
noncomputable abbrev aPl:BU:=top 7
noncomputable abbrev aDq:BU:=top 10
noncomputable abbrev aAX:BU:=top 11
noncomputable abbrev aBf:BU:=top 12
noncomputable abbrev aBC:BU:=top 14
noncomputable abbrev aDI:BU:=top 13
noncomputable abbrev aNC:BU:=top 17
noncomputable abbrev aCN:BU:=top 18
noncomputable abbrev aIC:BU:=top 19
noncomputable abbrev aNP:BU:=top 20
noncomputable abbrev sFd:BU:=top 21
noncomputable abbrev aCO:BU:=top 22
noncomputable abbrev aIx:BU:=top 23
noncomputable abbrev aIy:BU:=top 25
noncomputable abbrev aLp:BU:=top 26
noncomputable abbrev sFt:BU:=top 28
noncomputable abbrev sLr:BU:=top 29
noncomputable abbrev aDN:BU:=top 31
noncomputable abbrev aHM:BU:=top 32
noncomputable abbrev aCP:BU:=top 33
noncomputable abbrev aHJ:BU:=top 34
noncomputable abbrev aPo:BU:=top 35
noncomputable abbrev aCM:BU:=top 37
noncomputable abbrev aNG:BU:=top 40
noncomputable abbrev aID:BU:=top 36
noncomputable abbrev aIp:BU:=top 38
noncomputable abbrev aOW:BU:=top 39
noncomputable abbrev aNH:BU:=top 42
noncomputable abbrev aNo:BU:=top 41
noncomputable abbrev aNt:BU:=top 44
noncomputable abbrev aFF:BU:=top 45
noncomputable abbrev aLv:BU:=top 46
noncomputable abbrev aND:BU:=top 47
noncomputable abbrev aNu:BU:=top 48
noncomputable abbrev rQ:BU:=top 49
section
variable {P:AG}{w:AL}{K:aA}{mg:Str->Option BO}{base:BS}{f:BQ}{fd:AY}
theorem aLC(q:SQ):pl (sqD q)=true:=by
 show pl (iY _ _ _ _)=true;unfold iY
 split
 ·rfl
 ·split<;>rfl
theorem aMC(q:SQ):dep (sqD q)=1:=by
 show dep (iY _ _ _ _)=1;unfold iY
 split
 ·rfl
 ·split<;>rfl
theorem aDR{α:Type}(g:α->D)(h:∀a,pl (g a)=true):∀l:List α,plL (l.map g)=true
 |[]=>rfl
 |a::l=>by show(pl (g a)&&plL (l.map g))=true;rw[h a,aDR g h l];rfl
theorem aBj{α:Type}(g:α->D)(n:Nat)(h:∀a,dep (g a)<=n):∀l:List α,jK (l.map g)<=n
 |[]=>bS _
 |a::l=>Nat.max_le.mpr ⟨h a,aBj g n h l⟩
def aAW:List D->R->Prop:=λds r=>∃p:Int×Int,ds=[cS p]/\0<=p.1/\p.1<=60/\r=.val (.int (2^p.1.toNat))
theorem aFT(F:Fun K "word_count" "word_count" aHO f fd)(zrange:mg "range"=none)(hm:mg "word_count"=some (.ref f)):bL P w K mg base "word_count" 1 1 aAW:=by
 have nd:(["size","count","bit"]:List Str).Nodup:=by decide+kernel
 refine eJ (N:=["size","count","bit"]) (ps:=["size"]) (k:=0) F ⟨rfl,rfl,rfl,nd,rfl,by decide+kernel,by decide+kernel⟩ hm (λ_ _ _ _ _ _ us hl=>match us,hl with | [_],_=>rfl) λcdv A outer s H E hr ds r hl c=> ?_
 obtain⟨p,rfl,h0,h1,rfl⟩:=c;have ep:p.1=((p.1.toNat:Nat):Int):=by omega
 refine aG (cB 1 nd rfl (Or.inl rfl) bA ?_);refine aG (uK (ds:=jJ 0 p.1.toNat) (λk=>[.val (cS p),.val (.int (2^k)),.un]) (λk=>[.val (cS p),.val (.int (2^k)),.val (.int (0+(k:Int)))]) (kJ (n:=p.1.toNat) rfl zrange (PEd.cast (dD (n:=0) (d:=.int p.1) (aC 0 rfl (pv 0)) bA rfl λ_ _=>rfl) (by rw[<-ep])) (by omega)) ⟨.inr rfl,.inr rfl,.inr rfl,trivial⟩ (λi d hd=> ?_) (λi d hd=> ?_) ?_)
 ·obtain⟨_,rfl⟩:=kK hd;exact eV 2 (cP (i:=2) nd rfl (Or.inl rfl))
 ·refine bE (cB 1 nd rfl (Or.inl rfl) (cJ iW (aC 1 rfl (pv 1)) bA (aII (by decide) (by decide))) ?_);exact⟨.inr rfl,.inr rfl,.inl rfl,trivial⟩
 ·refine bE (bT (aC 1 rfl (pv 1)) trivial ?_);rw[iJ]
def aLH:List D->R->Prop:=λds r=>∃ (L:List (List Int)) (m:Nat),ds=[.lst (L.map bG),.int (m:Int)]/\L.length*m<=900/\m<=64/\(∀s∈L,s.length<=100)/\r=.own ((L.flatMap λs=>(bK m).map λ(w:Nat)=>s++[(w:Int)]).map bG)
theorem aIJ(F:Fun K "with_each_word" "with_each_word" aCy f fd)(zrange:mg "range"=none)(hm:mg "with_each_word"=some (.ref f)):bL P w K mg base "with_each_word" 1 2 aLH:=by
 have nd:(["starts","count","longer","start"]:List Str).Nodup:=by decide+kernel
 refine eJ (N:=["starts","count","longer","start"]) (ps:=["starts","count"]) (k:=0) F ⟨rfl,rfl,rfl,nd,rfl,by decide+kernel,by decide+kernel⟩ hm (λ_ _ _ _ _ _ us hl=>match us,hl with | [_,_],_=>rfl) λcdv A outer s H E hr ds r hl c=> ?_
 obtain⟨L,m,rfl,hL,hm64,hs,rfl⟩:=c;have nd2:(["word","start"]:List Str).Nodup:=by decide+kernel
 refine aG (iG 2 nd rfl (Or.inl rfl) (iA (ds:=[]) aU (bS _)) λl=> ?_);refine aG (uK (ds:=L.map bG) (λk=>[.val (.lst (L.map bG)),.val (.int (m:Int)),.own l (((L.take k).flatMap λs=>(bK m).map λ(w:Nat)=>s++[(w:Int)]).map bG),.un]) (λk=>[.val (.lst (L.map bG)),.val (.int (m:Int)),.own l (((L.take k).flatMap λs=>(bK m).map λ(w:Nat)=>s++[(w:Int)]).map bG),.val (bG (L.getD k []))]) (gU (aC 0 rfl (pv 0))) ⟨.inr rfl,.inr rfl,.inr rfl,.inr rfl,trivial⟩ (λk d hd=> ?_) (λk d hd=> ?_) ?_)
 ·obtain⟨_,rfl⟩:=nH hd;exact eV 3 (cP (i:=3) nd rfl (Or.inr rfl))
 ·obtain⟨hk,rfl⟩:=nH hd;have hmem:L.getD k []∈L:=getD_mem hk
  have et:L.take (k+1)=L.take k++[L.getD k []]:=by rw[fD];simp[bR,hk]
  have lk:(L.take k).length*m+m<=900:=by
   have h1:(L.take k).length+1<=L.length:=by rw[cT];omega
   have h2:=aFm m h1;rw[aFd] at h2;omega
  have comp:∀ {pos:Pos},PEd (oS CX0 P w K mg base ["starts","count","longer","start"] "with_each_word" (bI aCy) f cdv A outer s H E).nox [.val (.lst (L.map bG)),.val (.int (m:Int)),.own l (((L.take k).flatMap λs=>(bK m).map λ(w:Nat)=>s++[(w:Int)]).map bG),.val (bG (L.getD k []))] (match(iK aCy).getD 1 (.Pass ⟨0,0,0,0⟩) with | .For _ _ [.Expr (.Call _ [c] _ _) _] _ _=>c|_=> .Constant .none 0 ⟨0,0,0,0⟩) (.own (((jJ 0 m).filter λ_=>true).map λd=>D.tup ((L.getD k []).map D.int++[d]))):=λ{pos}=>by
   refine jE (N:=["word","start"]) (M:=["starts","count","longer","start"]) (cap:=[none,some 3]) (sc:=bI aCy) (Tb:=λd=>[.val d,.val (bG (L.getD k []))]) (λ_=>true) (λd=>D.tup ((L.getD k []).map D.int++[d])) (kJ (n:=m) rfl zrange (aC 1 rfl (pv 1)) (by omega)) (by rw[iJ];omega) rfl (by decide+kernel) rfl (by decide+kernel) rfl (λcl C fp s H d _=>eV 0 (cP (i:=0) nd2 rfl (Or.inl rfl))) (λd _=>⟨.inl rfl,.inr rfl,trivial⟩) (λcl C fp s H d _=>.inl ⟨rfl,rfl⟩) λcl C fp s H d _ _=> ?_
   refine mE (aC 1 rfl (pv 1)) (fW (ds:=[d]) (aE (aC 0 rfl (pv 0)) aU) (aF rfl)) ?_;have:=hs _ hmem;simp only[aB,bU,iB];omega
  have ec:((jJ 0 m).filter λ_=>true).map (λd=>D.tup ((L.getD k []).map D.int++[d]))=((bK m).map λ(w:Nat)=>L.getD k []++[(w:Int)]).map bG:=by
   rw[eH.mpr (λ_ _=>rfl)];unfold jJ;rw[aV,aV];refine cM λw _=> ?_
   simp[bG]
  refine bE (vM 2 rfl (pv 2) (PEd.val (comp (pos:=⟨0,0,0,0⟩))) ?_ ?_)
  ·rw[aB,oU,ec,aB,aB,eM];omega
  ·refine⟨.inr rfl,.inr rfl,.inr ?_,.inl rfl,trivial⟩;rw[et,ec,aFl,aP];simp
 ·refine bE (nG 2 rfl (pv 2) ?_);show R.own _=R.own _;rw[aB,fM]
def aFA:List D->R->Prop:=λds r=>∃p,p∈bX/\ds=[cS p]/\r=.own ((iM (2^p.1.toNat) p.2.toNat).map bG)
theorem aIV(F:Fun K "fillings" "fillings" aLm f fd)(zrange:mg "range"=none)(hm:mg "fillings"=some (.ref f))(GC:bL P w K mg base "word_count" 1 1 aAW)(GE:bL P w K mg base "with_each_word" 1 2 aLH):bL P w K mg base "fillings" 2 1 aFA:=by
 have nd:(["size","count","told","box"]:List Str).Nodup:=by decide+kernel
 refine eJ (N:=["size","count","told","box"]) (ps:=["size"]) (k:=1) F ⟨rfl,rfl,rfl,nd,rfl,by decide+kernel,by decide+kernel⟩ hm (λ_ _ _ _ _ _ us hl=>match us,hl with | [_],_=>rfl) λcdv A outer s H E hr ds r hl c=> ?_
 obtain⟨p,hp,rfl,rfl⟩:=c;obtain⟨h1,h2,h3,h4,h5⟩:=uB p hp;have e2:p.2=((p.2.toNat:Nat):Int):=by omega
 have m64:2^p.1.toNat<=64:=by
  have:p.1.toNat<=6:=by omega
  exact cO (lJ (by decide) this) (by decide)
 have ec:(2:Int)^p.1.toNat=((2^p.1.toNat:Nat):Int):=by push_cast;rfl
 refine aG (cB 1 nd rfl (Or.inl rfl) (bW (ds:=[cS p]) GC hr rfl (aE (aC 0 rfl (pv 0)) aU) ⟨p,rfl,by omega,by omega,rfl⟩ trivial rfl) ?_);refine aG (iG (ds:=[bG []]) 2 nd rfl (Or.inl rfl) (iA (ds:=[bG []]) (aE (fW (ds:=[]) aU (bS _)) aU) (aF rfl)) λl=> ?_);refine aG (hX (ds:=jJ 0 p.2.toNat) (λk sd=>∃l,sd=[.val (cS p),.val (.int (2^p.1.toNat)),.own l ((iM (2^p.1.toNat) k).map bG),.un]) (kJ (n:=p.2.toNat) rfl zrange (PEd.cast (dD (n:=1) (d:=.int p.2) (aC 0 rfl (pv 0)) bA rfl λ_ _=>rfl) (by rw[<-e2])) (by omega)) ⟨_,Le.refl _,l,rfl⟩ (λk d sdk hd hk=> ?_) λsdn hn=> ?_)
 ·obtain⟨hk2,rfl⟩:=kK hd;obtain⟨l2,rfl⟩:=hk;refine⟨[.val (cS p),.val (.int (2^p.1.toNat)),.own l2 ((iM (2^p.1.toNat) k).map bG),.val (.int (0+(k:Int)))],eV 3 (cP (i:=3) nd rfl (Or.inl rfl)), ?_⟩;refine mJ 2 rfl ?_;refine bE (iG 2 nd rfl (Or.inl rfl) (bW (ds:=[.lst ((iM (2^p.1.toNat) k).map bG),.int ((2^p.1.toNat:Nat):Int)]) GE hr rfl (aE (aC 2 rfl (pv 2)) (aE (PEd.cast (aC 1 rfl (pv 1)) (by rw[ec])) aU)) ⟨iM (2^p.1.toNat) k,2^p.1.toNat,rfl, ?_,m64,λs hs=> ?_,rfl⟩ trivial rfl) λl3=> ?_)
  ·rw[rL];exact yE p hp k hk2
  ·rw[xC _ _ s hs];omega
  ·exact⟨[.val (cS p),.val (.int (2^p.1.toNat)),.own l3 ((iM (2^p.1.toNat) (k+1)).map bG),.un],⟨.inr rfl,.inr rfl,.inr rfl,.inl rfl,trivial⟩,l3,rfl⟩
 ·rw[iJ] at hn;obtain⟨l2,rfl⟩:=hn;exact bE (nG 2 rfl (pv 2) rfl)
def aPj:List D->R->Prop:=λds r=>∃ (p:Int×Int) (ws:List Int),ds=[cS p,bG ws]/\0<=p.1/\p.1<=60/\r=.val (.int (tZ (2^p.1.toNat) ws))
theorem aLW(F:Fun K "number_of" "number_of" aPl f fd)(hm:mg "number_of"=some (.ref f))(GC:bL P w K mg base "word_count" 1 1 aAW):bL P w K mg base "number_of" 2 2 aPj:=by
 have nd:(["size","filling","count","number","word"]:List Str).Nodup:=by decide+kernel
 refine eJ (N:=["size","filling","count","number","word"]) (ps:=["size","filling"]) (k:=1) F ⟨rfl,rfl,rfl,nd,rfl,by decide+kernel,by decide+kernel⟩ hm (λ_ _ _ _ _ _ us hl=>match us,hl with | [_,_],_=>rfl) λcdv A outer s H E hr ds r hl c=> ?_
 obtain⟨p,ws,rfl,h0,h1,rfl⟩:=c
 have b1: -(2^64)<(2:Int)^p.1.toNat/\(2:Int)^p.1.toNat<2^64:=by
  have h3:p.1.toNat<=60:=by omega
  have h4:2^p.1.toNat<=2^60:=lJ (by decide) h3;have h5:(2:Int)^p.1.toNat=((2^p.1.toNat:Nat):Int):=by push_cast;rfl
  rw[h5];have h6:(2:Nat)^60=1152921504606846976:=by decide
  rw[h6] at h4;generalize 2^p.1.toNat=q at h4 ⊢;omega
 refine aG (cB 2 nd rfl (Or.inl rfl) (bW (ds:=[cS p]) GC hr rfl (aE (aC 0 rfl (pv 0)) aU) ⟨p,rfl,h0,h1,rfl⟩ trivial rfl) ?_);refine aG (cB 3 nd rfl (Or.inl rfl) bA ?_);refine aG (uK (ds:=ws.map D.int) (λk=>[.val (cS p),.val (bG ws),.val (.int (2^p.1.toNat)),.val (.int (tZ (2^p.1.toNat) (ws.take k))),.un]) (λk=>[.val (cS p),.val (bG ws),.val (.int (2^p.1.toNat)),.val (.int (tZ (2^p.1.toNat) (ws.take k))),.val (.int (ws.getD k 0))]) (pO (aC 1 rfl (pv 1))) ⟨.inr rfl,.inr rfl,.inr rfl,.inr rfl,.inr rfl,trivial⟩ (λk d hd=> ?_) (λk d hd=> ?_) ?_)
 ·obtain⟨_,rfl⟩:=aBA hd;exact eV 4 (cP (i:=4) nd rfl (Or.inl rfl))
 ·obtain⟨hk,rfl⟩:=aBA hd
  have et:ws.take (k+1)=ws.take k++[ws.getD k 0]:=by rw[fD];simp[bR,hk]
  refine bE (cB 3 nd rfl (Or.inl rfl) (gO iL (cJ iW (aC 3 rfl (pv 3)) (aC 2 rfl (pv 2)) (aII b1.1 b1.2)) (aC 4 rfl (pv 4))) ?_);refine⟨.inr rfl,.inr rfl,.inr rfl,.inr ?_,.inl rfl,trivial⟩;rw[et];unfold tZ;rw[nN];rfl
 ·refine bE (bT (aC 3 rfl (pv 3)) trivial ?_);show R.val _=R.val _;rw[aB,fM]
def aDw:List D->R->Prop:=λds r=>∃ (k:Nat) (m a:Int),ds=[.str (nm k),.int m,.int a]/\7<=k/\k<10/\0<m/\r=.val (.int (aLt k m a))
theorem aEG(F:Fun K "word_by_itself" "word_by_itself" aDq f fd)(hm:mg "word_by_itself"=some (.ref f)):bL P w K mg base "word_by_itself" 1 3 aDw:=by
 have nd:(["name","count","word"]:List Str).Nodup:=by decide+kernel
 refine eJ (N:=["name","count","word"]) (ps:=["name","count","word"]) (k:=0) F ⟨rfl,rfl,rfl,nd,rfl,by decide+kernel,by decide+kernel⟩ hm (λ_ _ _ _ _ _ us hl=>match us,hl with | [_,_,_],_=>rfl) λcdv A outer s H E hr ds r hl c=> ?_
 obtain⟨k,m,a,rfl,h7,h10,hm0,rfl⟩:=c;refine aG (gF (k:=decide (k=7)) (cX (aC 0 rfl (pv 0)) dL rfl rfl rfl (zQ k h10)) (λh=> ?_) λh=>cQ ?_)
 ·have:k=7:=by simpa using h
  subst this;exact bE (bT (gO qG (gO qG (aC 1 rfl (pv 1)) bA) (aC 2 rfl (pv 2))) trivial rfl)
 have n7:¬ k=7:=by simpa using h
 refine aG (gF (k:=decide (k=8)) (cX (aC 0 rfl (pv 0)) dL rfl rfl rfl (aFD k h10)) (λh=> ?_) λh=>cQ ?_)
 ·have:k=8:=by simpa using h
  subst this;exact bE (bT (cJ eX (cJ iW (aC 2 rfl (pv 2)) bA (aII (by decide) (by decide))) (aC 1 rfl (pv 1)) hm0) trivial rfl)
 have n8:¬ k=8:=by simpa using h
 have:k=9:=by omega
 subst this;exact bE (bT (cJ aKs (aC 2 rfl (pv 2)) bA ⟨by decide,by decide⟩) trivial rfl)
def aBB:List D->R->Prop:=λds r=>∃ (k:Nat) (m a c:Int),ds=[.str (nm k),.int m,.int a,.int c]/\k<6/\0<m/\r=.val (.int (aFs k m a c))
theorem aCi(F:Fun K "word_by_another" "word_by_another" aAX f fd)(hm:mg "word_by_another"=some (.ref f)):bL P w K mg base "word_by_another" 1 4 aBB:=by
 have nd:(["name","count","word","other"]:List Str).Nodup:=by decide+kernel
 refine eJ (N:=["name","count","word","other"]) (ps:=["name","count","word","other"]) (k:=0) F ⟨rfl,rfl,rfl,nd,rfl,by decide+kernel,by decide+kernel⟩ hm (λ_ _ _ _ _ _ us hl=>match us,hl with | [_,_,_,_],_=>rfl) λcdv A outer s H E hr ds r hl c=> ?_
 obtain⟨k,m,a,c,rfl,h6,hm0,rfl⟩:=c;have h10:k<10:=by omega
 refine aG (gF (k:=decide (k=0)) (cX (aC 0 rfl (pv 0)) dL rfl rfl rfl (aCI k h10)) (λh=> ?_) λh=>cQ ?_)
 ·have:k=0:=by simpa using h
  subst this;exact bE (bT (gO aHu (aC 2 rfl (pv 2)) (aC 3 rfl (pv 3))) trivial rfl)
 have n0:¬ k=0:=by simpa using h
 refine aG (gF (k:=decide (k=1)) (cX (aC 0 rfl (pv 0)) dL rfl rfl rfl (aIH k h10)) (λh=> ?_) λh=>cQ ?_)
 ·have:k=1:=by simpa using h
  subst this;exact bE (bT (gO aLq (aC 2 rfl (pv 2)) (aC 3 rfl (pv 3))) trivial rfl)
 have n1:¬ k=1:=by simpa using h
 refine aG (gF (k:=decide (k=2)) (cX (aC 0 rfl (pv 0)) dL rfl rfl rfl (aCz k h10)) (λh=> ?_) λh=>cQ ?_)
 ·have:k=2:=by simpa using h
  subst this;exact bE (bT (gO aHm (aC 2 rfl (pv 2)) (aC 3 rfl (pv 3))) trivial rfl)
 have n2:¬ k=2:=by simpa using h
 refine aG (gF (k:=decide (k=3)) (cX (aC 0 rfl (pv 0)) dL rfl rfl rfl (aCL k h10)) (λh=> ?_) λh=>cQ ?_)
 ·have:k=3:=by simpa using h
  subst this;exact bE (bT (cJ eX (gO iL (aC 2 rfl (pv 2)) (aC 3 rfl (pv 3))) (aC 1 rfl (pv 1)) hm0) trivial rfl)
 have n3:¬ k=3:=by simpa using h
 refine aG (gF (k:=decide (k=4)) (cX (aC 0 rfl (pv 0)) dL rfl rfl rfl (aAB k h10)) (λh=> ?_) λh=>cQ ?_)
 ·have:k=4:=by simpa using h
  subst this;exact bE (bT (cJ eX (gO qG (aC 2 rfl (pv 2)) (aC 3 rfl (pv 3))) (aC 1 rfl (pv 1)) hm0) trivial rfl)
 have n4:¬ k=4:=by simpa using h
 have:k=5:=by omega
 subst this;exact bE (bT (aC 3 rfl (pv 3)) trivial rfl)
structure aNF(p:Int×Int)(k:Nat)(i j n:Int)(ws:List Int):Prop where
 sz:p∈bX
 k10:k<10
 i0:0<=i/\i<p.2
 j0:0<=j/\j<p.2
 n0:0<=n/\n<((2^p.1.toNat:Nat):Int)
 len:ws.length=p.2.toNat
 wd:∀w∈ws,0<=w/\w<((2^p.1.toNat:Nat):Int)
noncomputable def aKS(p:Int×Int)(k:Nat)(i j n:Int)(ws:List Int):Int:=newW k ((2^p.1.toNat:Nat):Int) (ws.getD i.toNat 0) (ws.getD j.toNat 0) n
def aBs:List D->R->Prop:=λds r=>∃p k i j n ws,aNF p k i j n ws/\ds=[cS p,iY k i j n,bG ws]/\r=.val (.int (aKS p k i j n ws))
theorem aMO(n:Nat):(0:Int)<((2^n:Nat):Int):=by have:0<2^n:=Nat.pow_pos (by decide);generalize 2^n=q at this ⊢;omega
theorem aHV{ws:List Int}{i:Int}{n:Nat}(h:ws.length=n)(h1:i<(n:Int))(h0:0<=i):(ws.map D.int)[i.toNat]? =some (.int (ws.getD i.toNat 0)):=by
 have:i.toNat<ws.length:=by omega
 simp[bR,this]
theorem aBP(F:Fun K "new_word" "new_word" aBf f fd)(byself:∃ad,mg "BY_ITSELF"=some (.ref ad)/\∀H:Hp,SqT K H ad [V.str "not",V.str "up",V.str "down"])(hm:mg "new_word"=some (.ref f))(GC:bL P w K mg base "word_count" 1 1 aAW)(GI:bL P w K mg base "word_by_itself" 1 3 aDw)(GA:bL P w K mg base "word_by_another" 1 4 aBB):bL P w K mg base "new_word" 2 3 aBs:=by
 have nd:(["size","step","filling","name","word"]:List Str).Nodup:=by decide+kernel
 refine eJ (N:=["size","step","filling","name","word"]) (ps:=["size","step","filling"]) (k:=1) F ⟨rfl,rfl,rfl,nd,rfl,by decide+kernel,by decide+kernel⟩ hm (λ_ _ _ _ _ _ us hl=>match us,hl with | [_,_,_],_=>rfl) λcdv A outer s H E hr ds r hl c=> ?_
 obtain⟨p,k,i,j,n,ws,O,rfl,rfl⟩:=c;obtain⟨h1,h2,h3,h4,h5⟩:=uB p O.sz;have hm0:=aMO p.1.toNat;have ec:(2:Int)^p.1.toNat=((2^p.1.toNat:Nat):Int):=by push_cast;rfl
 have e2:p.2=((p.2.toNat:Nat):Int):=by omega
 obtain⟨ad,hB,hq⟩:=byself;have ai:(ws.map D.int)[i.toNat]? =some (.int (ws.getD i.toNat 0)):=aHV O.len (by have:=O.i0.2;omega) O.i0.1;have aj:(ws.map D.int)[j.toNat]? =some (.int (ws.getD j.toNat 0)):=aHV O.len (by have:=O.j0.2;omega) O.j0.1
 by_cases k6:k<6
 ·have es:iY k i j n=.tup [.str (nm k),.int i,.int j]:=by unfold iY;rw[if_pos k6]
  rw[es];refine aG (cB 3 nd rfl (Or.inl rfl) (dD (n:=0) (aC 1 rfl (pv 1)) bA rfl λ_ _=>rfl) ?_);refine aG (gH (cX (aC 3 rfl (pv 3)) dL rfl rfl rfl (tO k O.k10)) (by simp;omega) (cQ ?_));refine aG (cB 4 nd rfl (Or.inl rfl) (mD (i:=i) (aC 2 rfl (pv 2)) (dD (n:=1) (aC 1 rfl (pv 1)) bA rfl λ_ _=>rfl) O.i0.1 ai λ_ _=>rfl) ?_);refine aG (gH (aDh rfl hB (λH=>hq H) (aC 3 rfl (pv 3)) rfl rfl rfl) (by rw[aDU k O.k10];simp;omega) (cQ ?_));refine bE (bT (bW (ds:=[.str (nm k),.int ((2^p.1.toNat:Nat):Int),.int (ws.getD i.toNat 0),.int (ws.getD j.toNat 0)]) GA hr rfl (aE (aC 3 rfl (pv 3)) (aE (PEd.cast (bW (ds:=[cS p]) GC hr rfl (aE (aC 0 rfl (pv 0)) aU) ⟨p,rfl,by omega,by omega,rfl⟩ trivial rfl) (by rw[ec])) (aE (aC 4 rfl (pv 4)) (aE (mD (i:=j) (aC 2 rfl (pv 2)) (dD (n:=2) (aC 1 rfl (pv 1)) bA rfl λ_ _=>rfl) O.j0.1 aj λ_ _=>rfl) aU)))) ⟨k,_,_,_,rfl,k6,hm0,rfl⟩ trivial rfl) trivial ?_);unfold aKS newW;rw[if_neg (by omega),if_neg (by omega)]
 ·by_cases k6':k=6
  ·subst k6';have es:iY 6 i j n=.tup [.str (nm 6),.int i,.int n]:=rfl;rw[es];refine aG (cB 3 nd rfl (Or.inl rfl) (dD (n:=0) (aC 1 rfl (pv 1)) bA rfl λ_ _=>rfl) ?_);refine aG (iV (cX (aC 3 rfl (pv 3)) dL rfl rfl rfl (tO 6 O.k10)) rfl ?_);exact bE (bT (dD (n:=2) (aC 1 rfl (pv 1)) bA rfl λ_ _=>rfl) trivial rfl)
  ·have es:iY k i j n=.tup [.str (nm k),.int i]:=by unfold iY;rw[if_neg k6,if_neg k6']
   rw[es];refine aG (cB 3 nd rfl (Or.inl rfl) (dD (n:=0) (aC 1 rfl (pv 1)) bA rfl λ_ _=>rfl) ?_);refine aG (gH (cX (aC 3 rfl (pv 3)) dL rfl rfl rfl (tO k O.k10)) (by simp;omega) (cQ ?_));refine aG (cB 4 nd rfl (Or.inl rfl) (mD (i:=i) (aC 2 rfl (pv 2)) (dD (n:=1) (aC 1 rfl (pv 1)) bA rfl λ_ _=>rfl) O.i0.1 ai λ_ _=>rfl) ?_);refine aG (iV (aDh rfl hB (λH=>hq H) (aC 3 rfl (pv 3)) rfl rfl rfl) (by rw[aDU k O.k10];simp;omega) ?_);refine bE (bT (bW (ds:=[.str (nm k),.int ((2^p.1.toNat:Nat):Int),.int (ws.getD i.toNat 0)]) GI hr rfl (aE (aC 3 rfl (pv 3)) (aE (PEd.cast (bW (ds:=[cS p]) GC hr rfl (aE (aC 0 rfl (pv 0)) aU) ⟨p,rfl,by omega,by omega,rfl⟩ trivial rfl) (by rw[ec])) (aE (aC 4 rfl (pv 4)) aU))) ⟨k,_,_,rfl,by omega,O.k10,hm0,rfl⟩ trivial rfl) trivial ?_);unfold aKS newW;rw[if_neg k6',if_pos (by omega)]
def aBc:List D->R->Prop:=λds r=>∃k i j n,ds=[iY k i j n]/\r=.val (.int i)
theorem aJK(k:Nat)(i j n:Int):∃es,iY k i j n=.tup (.str (nm k)::.int i::es):=by
 unfold iY
 split
 ·exact⟨_,rfl⟩
 ·split
  ·exact⟨_,rfl⟩
  ·exact⟨_,rfl⟩
theorem aCj(F:Fun K "written_box" "written_box" aBC f fd)(hm:mg "written_box"=some (.ref f)):bL P w K mg base "written_box" 1 1 aBc:=by
 have nd:(["step"]:List Str).Nodup:=by decide+kernel
 refine eJ (N:=["step"]) (ps:=["step"]) (k:=0) F ⟨rfl,rfl,rfl,nd,rfl,by decide+kernel,by decide+kernel⟩ hm (λ_ _ _ _ _ _ us hl=>match us,hl with | [_],_=>rfl) λcdv A outer s H E hr ds r hl c=> ?_
 obtain⟨k,i,j,n,rfl,rfl⟩:=c;obtain⟨es,e⟩:=aJK k i j n;rw[e];exact bE (bT (dD (n:=1) (aC 0 rfl (pv 0)) bA rfl λ_ _=>rfl) trivial rfl)
noncomputable def aPn(p:Int×Int)(k:Nat)(i j n:Int)(ws:List Int):List Int:=ws.set i.toNat (aKS p k i j n ws)
def aDo:List D->R->Prop:=λds r=>∃p k i j n ws,aNF p k i j n ws/\ds=[cS p,iY k i j n,bG ws]/\r=.val (bG (aPn p k i j n ws))
theorem tM(ws:List Int){i:Nat}(h:i<ws.length):DL.cutD (ws.map D.int) none (some (i:Int))=(ws.take i).map D.int:=by
 unfold DL.cutD;have h1:HT.sIx (ws.map D.int).length 0 none=0:=rfl
 have h2:HT.sIx (ws.map D.int).length (ws.map D.int).length (some (i:Int))=i:=by rw[HT.sIx_nat,aB];omega
 rw[h1,h2,nR];simp
theorem qU(ws:List Int){i:Nat}(h:i<ws.length):DL.cutD (ws.map D.int) (some ((i:Int)+1)) none=(ws.drop (i+1)).map D.int:=by
 unfold DL.cutD;have e:((i:Int)+1)=((i+1:Nat):Int):=by push_cast;rfl
 have h1:HT.sIx (ws.map D.int).length 0 (some ((i:Int)+1))=i+1:=by rw[e,HT.sIx_nat,aB];omega
 have h2:HT.sIx (ws.map D.int).length (ws.map D.int).length none=ws.length:=by rw[HT.sIx_none,aB]
 rw[h1,h2,lC,fV (by rw[gW,aB];omega)]
theorem aEI(F:Fun K "step_on" "step_on" aDI f fd)(hm:mg "step_on"=some (.ref f))(GB:bL P w K mg base "written_box" 1 1 aBc)(GN:bL P w K mg base "new_word" 2 3 aBs):bL P w K mg base "step_on" 3 3 aDo:=by
 have nd:(["size","step","filling","box"]:List Str).Nodup:=by decide+kernel
 refine eJ (N:=["size","step","filling","box"]) (ps:=["size","step","filling"]) (k:=2) F ⟨rfl,rfl,rfl,nd,rfl,by decide+kernel,by decide+kernel⟩ hm (λ_ _ _ _ _ _ us hl=>match us,hl with | [_,_,_],_=>rfl) λcdv A outer s H E hr ds r hl c=> ?_
 obtain⟨p,k,i,j,n,ws,O,rfl,rfl⟩:=c;obtain⟨h1,h2,h3,h4,h5⟩:=uB p O.sz;have hr1:=hr.mono (show 1<=2 by decide);have li:i.toNat<ws.length:=by have:=O.i0;rw[O.len];omega
 have ei:i=((i.toNat:Nat):Int):=by have:=O.i0;omega
 have l6:ws.length<=6:=by rw[O.len];omega
 refine aG (cB (d:=.int ((i.toNat:Nat):Int)) 3 nd rfl (Or.inl rfl) (PEd.cast (bW (ds:=[iY k i j n]) GB hr1 rfl (aE (aC 1 rfl (pv 1)) aU) ⟨k,i,j,n,rfl,rfl⟩ trivial rfl) (by rw[<-ei])) ?_);refine bE (bT (PEd.cast (mE (mE (aAO (ol:=none) (oh:=some ((i.toNat:Nat):Int)) (aC 2 rfl (pv 2)) trivial (aC 3 rfl (pv 3)) ?_) (fW (ds:=[.int (aKS p k i j n ws)]) (aE (bW (ds:=[cS p,iY k i j n,bG ws]) GN hr rfl (aE (aC 0 rfl (pv 0)) (aE (aC 1 rfl (pv 1)) (aE (aC 2 rfl (pv 2)) aU))) ⟨p,k,i,j,n,ws,O,rfl,rfl⟩ trivial rfl) aU) (aF rfl)) ?_) (aAO (ol:=some (((i.toNat:Nat):Int)+1)) (oh:=none) (aC 2 rfl (pv 2)) (gO iL (aC 3 rfl (pv 3)) bA) trivial ?_) ?_) ?_) trivial rfl)
 ·rw[HT.sIx_nat,aB];omega
 ·rw[tM ws li];simp only[aB,cT,bU,iB];omega
 ·have e:(((i.toNat:Nat):Int)+1)=((i.toNat+1:Nat):Int):=by push_cast;rfl
  rw[e,HT.sIx_nat,aB];omega
 ·rw[tM ws li,qU ws li];simp only[bB,aB,cT,gW,bU,iB];omega
 ·rw[tM ws li,qU ws li];unfold bG aPn;rw[tQ,if_pos li];simp
theorem aMn{p:Int×Int}{q:SQ}{ws:List Int}(O:qK p q)(G:Fil p ws):aNF p q.1 q.2.1 q.2.2.1 q.2.2.2 ws:=⟨O.sz,O.k10,O.i0,O.j0,O.n0,G.len,G.wd⟩
theorem aGl(F:Fun K "numbers_of_step" "numbers_of_step" aNC f fd)(ztuple:mg "tuple"=none)(hm:mg "numbers_of_step"=some (.ref f))(GN:bL P w K mg base "number_of" 2 2 aPj)(GS:bL P w K mg base "step_on" 3 3 aDo)(GF:bL P w K mg base "fillings" 2 1 aFA):bL P w K mg base "numbers_of_step" 4 2 aOS:=by
 have nd:(["size","step"]:List Str).Nodup:=by decide+kernel
 have nd2:(["filling","size","step"]:List Str).Nodup:=by decide+kernel
 refine eJ (N:=["size","step"]) (ps:=["size","step"]) (k:=3) F ⟨rfl,rfl,rfl,nd,rfl,by decide+kernel,by decide+kernel⟩ hm (λ_ _ _ _ _ _ us hl=>match us,hl with | [_,_],_=>rfl) λcdv A outer s H E hr ds r hl c=> ?_
 obtain⟨p,q,hp,O,rfl,rfl⟩:=c;have hr2:=hr.mono (show 2<=3 by decide);have f9:(bV p).length<=64:=lI hp;obtain⟨h1,h2,h3,h4,h5⟩:=uB p hp
 have ec:(((bV p).map bG).filter λ_=>true).map (λd=>D.int ((nF p (onQ p q (mR d)):Nat):Int))=bY (jY p q):=by
  rw[eH.mpr (λ_ _=>rfl)];unfold bY jY;rw[aV,aV];refine cM λg _=> ?_
  show D.int ((nF p (onQ p q (mR (bG g))):Nat):Int)=_;rw[kM];rfl
 refine bE (bT (nC rfl ztuple (PEd.bor (PEd.val (PEd.cast (jE (ds:=(bV p).map bG) (N:=["filling","size","step"]) (M:=["size","step"]) (cap:=[none,some 0,some 1]) (sc:=bI aNC) (Tb:=λd=>[.val d,.val (cS p),.val (sqD q)]) (λ_=>true) (λd=>D.int ((nF p (onQ p q (mR d)):Nat):Int)) (gU (PEd.val (bW (ds:=[cS p]) GF hr2 rfl (aE (aC 0 rfl (pv 0)) aU) ⟨p,hp,rfl,rfl⟩ trivial rfl))) (by rw[aB];omega) rfl (by decide+kernel) rfl (by decide+kernel) rfl (λcl C fp s H d hd=>eV 0 (cP (i:=0) nd2 rfl (Or.inl rfl))) (λd hd=>⟨.inl rfl,.inr rfl,.inr rfl,trivial⟩) (λcl C fp s H d hd=>.inl ⟨rfl,rfl⟩) λcl C2 fp s H d hd _=> ?_) (by rw[ec]))))) trivial rfl);obtain⟨g,hg,rfl⟩:=uX hd;rw[kM];have G:=kP hp hg;have e:=(wZ hp (aAq O G)).1;exact bW (ds:=[cS p,bG (onQ p q g)]) GN hr2 rfl (aE (aC 1 rfl (pv 1)) (aE (bW (ds:=[cS p,sqD q,bG g]) GS hr rfl (aE (aC 1 rfl (pv 1)) (aE (aC 2 rfl (pv 2)) (aE (aC 0 rfl (pv 0)) aU))) ⟨p,_,_,_,_,g,aMn O G,rfl,rfl⟩ trivial rfl) aU)) ⟨p,_,rfl,by omega,by omega,by rw[e]⟩ trivial rfl
theorem aBJ(F:Fun K "moves_of" "moves_of" aCN f fd)(hm:mg "moves_of"=some (.ref f))(GN:bL P w K mg base "numbers_of_step" 4 2 aOS):bL P w K mg base "moves_of" 5 2 aHq:=by
 have nd:(["size","stock"]:List Str).Nodup:=by decide+kernel
 have nd2:(["step","price","size"]:List Str).Nodup:=by decide+kernel
 refine eJ (N:=["size","stock"]) (ps:=["size","stock"]) (k:=4) F ⟨rfl,rfl,rfl,nd,rfl,by decide+kernel,by decide+kernel⟩ hm (λ_ _ _ _ _ _ us hl=>match us,hl with | [_,_],_=>rfl) λcdv A outer s H E hr ds r hl c=> ?_
 obtain⟨p,L,hp,S,dn,rfl,rfl⟩:=c;have l8:=S.le
 have ec:((L.map skD).filter λ_=>true).map (λd=>mvD p (vY L d))=L.map (mvD p):=by
  rw[eH.mpr (λ_ _=>rfl),aV];refine cM λs hs=> ?_
  show mvD p (vY L (skD s))=_;rw[xB dn hs]
 refine bE (bT (PEd.cast (jE (ds:=L.map skD) (N:=["step","price","size"]) (M:=["size","stock"]) (cap:=[none,none,some 0]) (sc:=bI aCN) (Tb:=λd=>[.val (sqD (vY L d).1),.val (.int (vY L d).2),.val (cS p)]) (λ_=>true) (λd=>mvD p (vY L d)) (gU (aC 1 rfl (pv 1))) (by rw[aB];omega) rfl (by decide+kernel) rfl (by decide+kernel) rfl (λcl C fp s H d hd=> ?_) (λd hd=>⟨.inl rfl,.inl rfl,.inr rfl,trivial⟩) (λcl C fp s H d hd=>.inl ⟨rfl,rfl⟩) λcl C2 fp s H d hd _=> ?_) (by rw[ec])) trivial rfl)
 ·obtain⟨z,hz,rfl⟩:=aO.mp hd;rw[xB dn hz];exact kQ (ds:=[sqD z.1,.int z.2]) (js:=[0,1]) rfl (eU (cP (i:=0) nd2 rfl (Or.inl rfl)) (eU (cP (i:=1) nd2 rfl (Or.inl rfl)) kO)) rfl rfl
 ·obtain⟨z,hz,rfl⟩:=aO.mp hd;rw[xB dn hz];exact fW (ds:=[.int z.2,.tup (bY (jY p z.1))]) (aE (aC 1 rfl (pv 1)) (aE (bW (ds:=[cS p,sqD z.1]) GN hr rfl (aE (aC 2 rfl (pv 2)) (aE (aC 0 rfl (pv 0)) aU)) ⟨p,z.1,hp,(S.st z hz).1,rfl,rfl⟩ trivial rfl) aU)) (aF rfl)
theorem aEJ(F:Fun K "numbers_behind" "numbers_behind" aIC f fd)(ztuple:mg "tuple"=none)(hm:mg "numbers_behind"=some (.ref f)):bL P w K mg base "numbers_behind" 1 2 aLo:=by
 have nd:(["one","other"]:List Str).Nodup:=by decide+kernel
 have nd2:(["number","other"]:List Str).Nodup:=by decide+kernel
 refine eJ (N:=["one","other"]) (ps:=["one","other"]) (k:=0) F ⟨rfl,rfl,rfl,nd,rfl,by decide+kernel,by decide+kernel⟩ hm (λ_ _ _ _ _ _ us hl=>match us,hl with | [_,_],_=>rfl) λcdv A outer s H E hr ds r hl c=> ?_
 obtain⟨one,other,h1,h2,rfl,rfl⟩:=c
 have ec:((bY one).filter λ_=>true).map (λd=>match d with | .int i=>D.int ((other.getD i.toNat 0:Nat):Int)|_=>.non)=bY (jL other one):=by rw[eH.mpr (λ_ _=>rfl)];unfold bY jL;rw[aV,aV];rfl
 refine bE (bT (nC rfl ztuple (PEd.bor (PEd.val (PEd.cast (jE (ds:=bY one) (N:=["number","other"]) (M:=["one","other"]) (cap:=[none,some 1]) (sc:=bI aIC) (Tb:=λd=>[.val d,.val (.tup (bY other))]) (λ_=>true) (λd=>match d with | .int i=>D.int ((other.getD i.toNat 0:Nat):Int)|_=>.non) (pO (aC 0 rfl (pv 0))) (by rw[rC];omega) rfl (by decide+kernel) rfl (by decide+kernel) rfl (λcl C fp s H d hd=>eV 0 (cP (i:=0) nd2 rfl (Or.inl rfl))) (λd hd=>⟨.inl rfl,.inr rfl,trivial⟩) (λcl C fp s H d hd=>.inl ⟨rfl,rfl⟩) λcl C2 fp s H d hd _=> ?_) (by rw[ec]))))) trivial rfl);obtain⟨i,hi,rfl⟩:=aO.mp hd;exact dD (n:=i) (aC 1 rfl (pv 1)) (aC 0 rfl (pv 0)) (aLI (h2 i hi)) λ_ _=>rfl
theorem aGk(F:Fun K "put_longer_rows" "put_longer_rows" aNP f fd)(zenumerate:mg "enumerate"=none)(hm:mg "put_longer_rows"=some (.ref f))(GB:bL P w K mg base "numbers_behind" 1 2 aLo):uP P w K (wtL P w K) mg base "put_longer_rows" 2 6 aPi:=by
 have nd:(["waiting","moves","bound","rank","row","numbers","place","move","price","longer"]:List Str).Nodup:=by decide+kernel
 refine aKo (Z:=wtL P w K) (N:=["waiting","moves","bound","rank","row","numbers","place","move","price","longer"]) (ps:=["waiting","moves","bound","rank","row","numbers"]) (k:=1) F ⟨rfl,rfl,rfl,nd,rfl,by decide+kernel,by decide+kernel⟩ hm (λ_ _ _ _ _ _ us hl=>match us,hl with | [_,_,_,_,_,_],_=>rfl) (λcdv A outer s H E B hB hr a ds post hl c=> ?_) (aFO P w K);obtain⟨p,L,b,r,row,nb,hp,L9,hnb,r9,ndT,hT,rfl,rfl⟩:=c;have hu:(A.deeper (Aj "put_longer_rows" (bI aNP) s.heap.objs.size f cdv)).units+4<AQ:=by have:=hr.un;omega
 have f9:(bV p).length<=64:=lI hp;refine bE (hX (ds:=tS (L.map (mvD p))) (λt sd=>∃a':Wt,a'.l=a.l/\a'.T=lgQ p L b r row nb t a.T/\sd=[wtS P w K a',.val (.lst (L.map (mvD p))),.val (.int b),.val (.tup [.int r.1,.int r.2]),.val (.tup (bY row)),.val (.tup (bY nb)),.un,.un,.un,.un]) (aBh rfl zenumerate (aC 1 rfl (pv 1))) ⟨_,Le.refl _,a,rfl,rfl,rfl⟩ (λt d sdt hd ht=> ?_) λsdn hn=> ?_)
 ·obtain⟨x,hx,rfl⟩:=sY hd;obtain⟨a',el,eT,rfl⟩:=ht
  have tl:t<L.length:=by have:=(aN.mp hx).1;simpa using this
  have ex:x=mvD p (L.getD t AR):=by rw[bF,cZ tl] at hx;rw[<-cC.inj hx];simp[bR,tl]
  subst ex;have es:lgQ p L b r row nb (t+1) a.T=if r.1+(L.getD t AR).2<=b then kH (lgQ p L b r row nb t a.T) (r.1+(L.getD t AR).2,r.2+1) (nP (row++[t],jL (jY p (L.getD t AR).1) nb)) else lgQ p L b r row nb t a.T:=rfl
  have ndt:=aFx (p:=p) (L:=L) (b:=b) (r:=r) (row:=row) (nb:=nb) ndT t;have tt:=aHz (p:=p) (L:=L) (b:=b) (r:=r) (row:=row) (nb:=nb) (T:=a.T) t;rw[<-eT] at es ndt tt;obtain⟨pl0,pl1⟩:=hnb;generalize L.getD t AR=m at es;refine⟨[wtS P w K a',.val (.lst (L.map (mvD p))),.val (.int b),.val (.tup [.int r.1,.int r.2]),.val (.tup (bY row)),.val (.tup (bY nb)),.val (.int (t:Int)),.val (mvD p m),.un,.un],kQ (js:=[6,7]) rfl (eU (cP (i:=6) nd rfl (Or.inl rfl)) (eU (cP (i:=7) nd rfl (Or.inl rfl)) kO)) rfl rfl, ?_⟩;refine aG (cB (d:=.int (r.1+m.2)) 8 nd rfl (Or.inl rfl) (gO iL (dD (n:=0) (d:=.int r.1) (aC 3 rfl (pv 3)) bA rfl λ_ _=>rfl) (dD (n:=0) (d:=.int m.2) (aC 7 rfl (pv 7)) bA rfl λ_ _=>rfl)) ?_);refine bE (gF (k:=decide (r.1+m.2<=b)) (mU aOc (aC 8 rfl (pv 8)) (aC 2 rfl (pv 2)) (jC _)) (λq=> ?_) λq=>cQ ?_)
  ·rw[if_pos (of_decide_eq_true q)] at es;have e1:bY row++[.int (t:Int)]=bY (row++[t]):=by unfold bY;rw[aP];rfl
   refine aG (cB (d:=p2D (nP (row++[t],jL (jY p m.1) nb))) 9 nd rfl (Or.inl rfl) (PEd.cast (fW (ds:=[.tup (bY (row++[t])),.tup (bY (jL (jY p m.1) nb))]) (aE (PEd.cast (mE (d1:=bY row) (d2:=[.int (t:Int)]) (aC 4 rfl (pv 4)) (fW (ds:=[.int (t:Int)]) (aE (aC 6 rfl (pv 6)) aU) (aF rfl)) (by unfold bY;rw[aB];show _+1<=1000;omega)) (by rw[e1])) (aE (bW (ds:=[.tup (bY nb),.tup (bY (jY p m.1))]) (r:=.val (.tup (bY (jL (jY p m.1) nb)))) GB hr rfl (aE (aC 5 rfl (pv 5)) (aE (dD (n:=1) (d:=.tup (bY (jY p m.1))) (aC 7 rfl (pv 7)) bA rfl λ_ _=>rfl) aU)) ⟨nb,jY p m.1,by omega,λi hi=>by rw[aJp];exact pl1 i hi,rfl,rfl⟩ trivial rfl) aU)) (aF rfl)) (by rw[aNy])) ?_);generalize nP (row++[t],jL (jY p m.1) nb)=y at es;refine bE (aEO (k:=rkK (r.1+m.2,r.2+1)) (ks:=wtK a'.T) (ls:=a'.ls) (dss:=wtD a'.T) (d:=p2D y) 0 (by show(A.deeper _).units+1<AQ;omega) rfl (pv 0) (PEd.cast (fW (ds:=[.int (r.1+m.2),.int (r.2+1)]) (aE (aC 8 rfl (pv 8)) (aE (gO iL (dD (n:=1) (d:=.int r.2) (aC 3 rfl (pv 3)) bA rfl λ_ _=>rfl) bA) aU)) (aF rfl)) rfl) (λz=>aC 9 rfl (pv 9)) (by have:=aJA a'.T;unfold wtD;rw[aB];omega) (λds hd=>by have:=aJa ds hd;omega) (λn ds hk hd=> ?_) λhk a9=> ?_)
   ·obtain⟨k1,k2⟩:=vK y ndt hk hd;refine⟨[wtS P w K ⟨a'.l,a'.ls,kH a'.T (r.1+m.2,r.2+1) y⟩,.val (.lst (L.map (mvD p))),.val (.int b),.val (.tup [.int r.1,.int r.2]),.val (.tup (bY row)),.val (.tup (bY nb)),.un,.un,.un,.un],⟨.inr ?_,.inr rfl,.inr rfl,.inr rfl,.inr rfl,.inr rfl,.inl rfl,.inl rfl,.inl rfl,.inl rfl,trivial⟩,⟨a'.l,a'.ls,kH a'.T (r.1+m.2,r.2+1) y⟩,el,es.symm,rfl⟩;unfold wtS;rw[k1,k2];rfl
   ·have k1:=vA y hk;refine⟨[wtS P w K ⟨a'.l,a'.ls++[a9],kH a'.T (r.1+m.2,r.2+1) y⟩,.val (.lst (L.map (mvD p))),.val (.int b),.val (.tup [.int r.1,.int r.2]),.val (.tup (bY row)),.val (.tup (bY nb)),.un,.un,.un,.un],⟨.inr ?_,.inr rfl,.inr rfl,.inr rfl,.inr rfl,.inr rfl,.inl rfl,.inl rfl,.inl rfl,.inl rfl,trivial⟩,⟨a'.l,a'.ls++[a9],kH a'.T (r.1+m.2,r.2+1) y⟩,el,es.symm,rfl⟩;unfold wtS;rw[k1];unfold wtK wtD;rw[aP,aP];rfl
  ·rw[if_neg (of_decide_eq_false q)] at es;exact⟨[wtS P w K a',.val (.lst (L.map (mvD p))),.val (.int b),.val (.tup [.int r.1,.int r.2]),.val (.tup (bY row)),.val (.tup (bY nb)),.un,.un,.un,.un],⟨.inr rfl,.inr rfl,.inr rfl,.inr rfl,.inr rfl,.inr rfl,.inl rfl,.inl rfl,.inl rfl,.inr rfl,trivial⟩,a',el,es.symm,rfl⟩
 ·obtain⟨a',el,eT,rfl⟩:=hn;refine⟨a',⟨el, ?_⟩,rfl⟩;rw[eT,pM,aB]
theorem aBM(F:Fun K "found_rows" "found_rows" sFd f fd)(zlen:mg "len"=none)(zmin:mg "min"=none)(zlist:mg "list"=none)(zsorted:mg "sorted"=none)(hmt:∃t,mg "MOST_TABLES"=some (.int 500 t))(hm:mg "found_rows"=some (.ref f))(GP:uP P w K (wtL P w K) mg base "put_longer_rows" 2 6 aPi):bL P w K mg base "found_rows" 3 3 aHp:=by
 obtain⟨tm,hmt⟩:=hmt;have nd:(["moves","bound","start","waiting","known","found","rank","ready","row","numbers"]:List Str).Nodup:=by decide+kernel
 refine eJ (N:=["moves","bound","start","waiting","known","found","rank","ready","row","numbers"]) (ps:=["moves","bound","start"]) (k:=2) F ⟨rfl,rfl,rfl,nd,rfl,by decide+kernel,by decide+kernel⟩ hm (λ_ _ _ _ _ _ us hl=>match us,hl with | [_,_,_],_=>rfl) λcdv A outer s H E hr ds r hl c=> ?_
 obtain⟨p,L,b,U,hp,S0,FU,rfl,rfl⟩:=c;have hu8:(A.deeper (Aj "found_rows" (bI sFd) s.heap.objs.size f cdv)).units+8<AQ:=by have:=hr.un;omega
 have hu4:(A.deeper (Aj "found_rows" (bI sFd) s.heap.objs.size f cdv)).units+4<AQ:=by omega
 have hu2:(A.deeper (Aj "found_rows" (bI sFd) s.heap.objs.size f cdv)).units+2<AQ:=by omega
 have hu1:(A.deeper (Aj "found_rows" (bI sFd) s.heap.objs.size f cdv)).units+1<AQ:=by omega
 have hpr:=S0.pr;have l8:=S0.le;have u4:=FU.len;refine aG (aEe 3 nd rfl (Or.inl rfl) λl3=> ?_);refine aFE (K:=∀ls T,(fd0 p b).T=T->PSd _ [.val (.lst (L.map (mvD p))),.val (.int b),.val (.tup (bY (st0 p))),wtS P w K ⟨l3,ls,T⟩,.un,.un,.un,.un,.un,.un] _ _) (λkey=>aG (gF (k:=decide (0<=b)) (mU aOy (aC 1 rfl (pv 1)) bA (jC _)) (λq=> ?_) λq=>cQ (key [] [] (if_neg (of_decide_eq_false q))))) λls T e0=> ?_
 ·refine bE (aGs (ds:=[p2D (nP ([],st0 p))]) 3 hu1 rfl (pv 3) (iA (ds:=[p2D (nP ([],st0 p))]) (aE (PEd.cast (fW (ds:=[.tup (bY []),.tup (bY (st0 p))]) (aE (fW (ds:=[]) aU (aF rfl)) (aE (aC 2 rfl (pv 2)) aU)) (aF rfl)) (by rw[aNy])) aU) (aF rfl)) (λz=>nomatch z) (aF rfl) λa=> ?_);exact key [a] [((0,0),[nP ([],st0 p)])] (if_pos (of_decide_eq_true q))
 subst e0;refine aG (aBl (hkT P w) 4 nd rfl (Or.inl rfl) λl4=> ?_);refine aG (iG (ds:=[]) 5 nd rfl (Or.inl rfl) (iA (ds:=[]) aU (aF rfl)) λl5=> ?_);refine aG (aEa (λm sd=>∃S dn r ls,Wk p L b dn r [] S/\U.length<dn.length+m/\lN p L b m S=lN p L b 401 (fd0 p b)/\sd=[.val (.lst (L.map (mvD p))),.val (.int b),.val (.tup (bY (st0 p))),wtS P w K ⟨l3,ls,S.T⟩,oG (hkT P w) K l4 (S.kn.map mQ) (S.kn.map λ_=>.bl true),.own l5 (S.fd.map fdD),.un,.un,.un,.un]) ⟨401,_,Le.refl _,fd0 p b,[],(0,0),ls,wk0 p L b,by simp;omega,rfl,rfl⟩ λm sdm hw=> ?_);obtain⟨S,dn,r,ls,W,hU,hR,rfl⟩:=hw;refine⟨decide ((0:Int)<((wtK S.T).length:Int)),mU aFC (aIP 3 rfl zlen rfl (pv 3)) bA (jC _),λq=> ?_,λq=> ?_⟩
 ·have e:S.T=[]:=by have:=of_decide_eq_false q;unfold wtK at this;rw[aB] at this;exact gJ (by omega)
  have e2:lN p L b m S=S:=by
   cases m with
   |zero=>rfl
   |succ m=>exact if_pos e
  have e3:bkF p L b=S.fd:=by unfold bkF;rw[<-hR,e2]
  rw[e3];exact bE (nG 5 rfl (pv 5) rfl)
 ·have hne:S.T≠[]:=λz=>by rw[z] at q;cases q
  obtain⟨t,ht,hm,tnd,tne,W1,eT,W2⟩:=W.turn hpr hne;obtain⟨M,t',g1,g2,g3,g4,_⟩:=aMv (X:=(oS CX0 P w K mg base ["moves","bound","start","waiting","known","found","rank","ready","row","numbers"] "found_rows" (bI sFd) f cdv A outer s H E).nox) hu4 hne;have et:t=t':=(cC.inj (g1.symm.trans ht)).symm;subst et
  have tl:t.2.length<=10000:=by have:=W.few FU;have h1:=(iQ t.2).length_eq;have h2:=W1.few FU;omega
  refine aG (cB (d:=rkD t.1) 6 nd rfl (Or.inl rfl) (aJc rfl zmin (PEd.bor (PEd.val (aGz 3 rfl zlist rfl (pv 3)))) M g2) ?_);refine aG (aGf (ps:=t.2) (rk:=rkP t.2) (k:=rkK t.1) 3 7 (fY S.T) hu1 rfl zsorted rfl (pv 3) (PEd.cast (aC 6 rfl (pv 6)) rfl) g3 g4 (aMS tnd tl hu8) nd rfl (Or.inl rfl) λl7 qs qp qw=>mJ 7 rfl ?_);have eq:=aIN tnd qp qw;subst eq;have ek:wtK (S.T.eraseIdx (fY S.T))=(wtK S.T).eraseIdx (fY S.T):=by unfold wtK;rw[dU,dU,aP,nR,lC]
  have ed:wtD (S.T.eraseIdx (fY S.T))=(wtD S.T).eraseIdx (fY S.T):=by unfold wtD;rw[dU,dU,aP,nR,lC]
  have e5:odG P w K l3 ((wtK S.T).eraseIdx (fY S.T)) (ls.eraseIdx (fY S.T)) ((wtD S.T).eraseIdx (fY S.T))=wtS P w K ⟨l3,ls.eraseIdx (fY S.T),S.T.eraseIdx (fY S.T)⟩:=by unfold wtS;rw[ek,ed]
  refine aCA (sd':=[.val (.lst (L.map (mvD p))),.val (.int b),.val (.tup (bY (st0 p))),wtS P w K ⟨l3,ls.eraseIdx (fY S.T),({S with T:=S.T.eraseIdx (fY S.T)}:FdS).T⟩,oG (hkT P w) K l4 (({S with T:=S.T.eraseIdx (fY S.T)}:FdS).kn.map mQ) (({S with T:=S.T.eraseIdx (fY S.T)}:FdS).kn.map λ_=>.bl true),.own l5 (({S with T:=S.T.eraseIdx (fY S.T)}:FdS).fd.map fdD),.val (rkD t.1),.val (.lst ((jH t.2).map p2D)),.un,.un]) ⟨.inr rfl,.inr rfl,.inr rfl,.inr e5,.inr rfl,.inr rfl,.inr rfl,.inr rfl,.inr rfl,.inr rfl,trivial⟩ ?_
  have hR2:∃m',m=m'+1/\lN p L b m' (fdT p L b S)=lN p L b 401 (fd0 p b):=by
   cases m with
   |zero=>have:=W.few FU;omega
   |succ m'=>have e6:lN p L b (m'+1) S=lN p L b m' (fdT p L b S):=if_neg hne;exact⟨m',rfl,by rw[<-e6];exact hR⟩
  obtain⟨m',rfl,hR2⟩:=hR2
  have tpos:0<(jH t.2).length:=by rw[(iQ t.2).length_eq];exact gP.mpr tne
  rw[eT] at hR2 W2;clear hR e5 ek ed g1 g2 g3 g4 M qp qw eT;generalize ({S with T:=S.T.eraseIdx (fY S.T)}:FdS)=S1 at W1 W2 hR2;generalize ls.eraseIdx (fY S.T)=ls1;refine bE (hX (ds:=(jH t.2).map p2D) (λj sd=>∃S' ls,S'=fdP p L b t.1 S1 ((jH t.2).take j)/\sd=[.val (.lst (L.map (mvD p))),.val (.int b),.val (.tup (bY (st0 p))),wtS P w K ⟨l3,ls,S'.T⟩,oG (hkT P w) K l4 (S'.kn.map mQ) (S'.kn.map λ_=>.bl true),.own l5 (S'.fd.map fdD),.val (rkD t.1),.val (.lst ((jH t.2).map p2D)),.un,.un]) (gU (aC 7 rfl (pv 7))) ⟨_,Le.refl _,S1,ls1,rfl,rfl⟩ (λj d sdj hd hj=> ?_) λsdn hn=> ?_)
  ·obtain⟨S',ls2,eS,rfl⟩:=hj;obtain⟨y,hy,rfl,ey⟩:=lO hd;have jl:j<(jH t.2).length:=(aN.mp hy).1;have Wj:=W1.take hpr j (by omega);have Wj1:=W1.take hpr (j+1) (by omega);rw[ey,wR,<-eS] at Wj1;rw[<-eS] at Wj;have eS1:fdP p L b t.1 S1 ((jH t.2).take (j+1))=fdI p L b t.1 S' (unP y):=by rw[ey,wR,<-eS]
   obtain⟨row,rfl,ro,er,rb⟩:=W1.rs y (bD hy);rw[eS1];rw[aKZ] at Wj1 ⊢;have rU:row.length<=300:=FU.rl _ (FU.all _ ro (by rw[er] at rb;exact rb));have nbo:=(yN hp (λs hs=>(S0.st s hs).1) ro).1;have f1:=Wj.fdl FU;have f2:=Wj1.fdl FU;have tt:=Wj.tot FU;have okj:=Wj.ok
   have kl:S'.kn.length<=400:=by rw[okj.kn,aB];exact f1
   have dy:p2D (itP p L row)=.tup [.tup (bY row),.tup (bY (nrQ p L row))]:=aNy _;rw[dy];clear Wj Wj1 eS1 ey hy hd eS dy;refine⟨[.val (.lst (L.map (mvD p))),.val (.int b),.val (.tup (bY (st0 p))),wtS P w K ⟨l3,ls2,S'.T⟩,oG (hkT P w) K l4 (S'.kn.map mQ) (S'.kn.map λ_=>.bl true),.own l5 (S'.fd.map fdD),.val (rkD t.1),.val (.lst ((jH t.2).map p2D)),.val (.tup (bY row)),.val (.tup (bY (nrQ p L row)))],kQ (ds:=[.tup (bY row),.tup (bY (nrQ p L row))]) (js:=[8,9]) rfl (eU (cP (i:=8) nd rfl (Or.inl rfl)) (eU (cP (i:=9) nd rfl (Or.inl rfl)) kO)) rfl rfl, ?_⟩
   have inj:decide (nrQ p L row∈S'.kn)=true↔mQ (nrQ p L row)∈S'.kn.map mQ:=by
    rw[decide_eq_true_iff]
    constructor
    ·exact λh=>aO.mpr ⟨_,h,rfl⟩
    ·intro h;obtain⟨e,e1,e2⟩:=aO.mp h;rw[<-aBt e2];exact e1
   refine aFE (K:=∀S2 ls3,S2=fdI p L b t.1 S' (row,nrQ p L row)->PSd _ [.val (.lst (L.map (mvD p))),.val (.int b),.val (.tup (bY (st0 p))),wtS P w K ⟨l3,ls3,S2.T⟩,oG (hkT P w) K l4 (S2.kn.map mQ) (S2.kn.map λ_=>.bl true),.own l5 (S2.fd.map fdD),.val (rkD t.1),.val (.lst ((jH t.2).map p2D)),.val (.tup (bY row)),.val (.tup (bY (nrQ p L row)))] _ _) (λkey=>aG (gF (k:= !decide (nrQ p L row∈S'.kn)) (aFI (hk:=hkT P w) (k:=mQ (nrQ p L row)) inj hu2 (PEd.cast (aC 9 rfl (pv 9)) (by rw[show(hkT P w).dat (mQ (nrQ p L row))=tD (mQ (nrQ p L row)) from rfl,aHA])) (aKq 4 rfl (pv 4))) (λq=> ?_) λq=>cQ (key S' ls2 (if_pos (by simpa using q)).symm))) λS2 ls3 e2=> ?_
   ·have nk:nrQ p L row∉S'.kn:=by simpa using q
    refine aG (aBF (hk:=hkT P w) (k:=mQ (nrQ p L row)) (d:=.bl true) 4 hu2 rfl (pv 4) aIz (PEd.cast (aC 9 rfl (pv 9)) (by rw[show(hkT P w).dat (mQ (nrQ p L row))=tD (mQ (nrQ p L row)) from rfl,aHA])) (λz=>nk (of_decide_eq_true (inj.mpr z))) (by rw[aB];omega) ?_);refine aG (nX (d:=fdD (t.1.1,row,nrQ p L row)) 5 rfl (pv 5) (fW (ds:=[.int t.1.1,.tup (bY row),.tup (bY (nrQ p L row))]) (aE (dD (n:=0) (d:=.int t.1.1) (aC 6 rfl (pv 6)) bA rfl λ_ _=>rfl) (aE (aC 8 rfl (pv 8)) (aE (aC 9 rfl (pv 9)) aU))) (aF rfl)) (by rw[aB];omega) ?_);refine bE (aEW (Z:=wtL P w K) (a:=⟨l3,ls2,S'.T⟩) (ds:=[.lst (L.map (mvD p)),.int b,.tup [.int t.1.1,.int t.1.2],.tup (bY row),.tup (bY (nrQ p L row))]) 3 rfl (pv 3) GP hr rfl (aE (aC 0 rfl (pv 0)) (aE (aC 1 rfl (pv 1)) (aE (aC 6 rfl (pv 6)) (aE (aC 8 rfl (pv 8)) (aE (aC 9 rfl (pv 9)) aU))))) ⟨p,L,b,t.1,row,nrQ p L row,hp,by omega,nbo,by omega,okj.nk,by show tot S'.T+_<=_;omega,rfl,rfl⟩ (λa' h=>h.1) rfl λa' h=> ?_);obtain⟨al,als,aT⟩:=a';obtain⟨h1,h2⟩:=h;have h1:al=l3:=h1;have h2:aT=lgQ p L b t.1 row (nrQ p L row) L.length S'.T:=h2;subst h1 h2;have k:=key ⟨lgQ p L b t.1 row (nrQ p L row) L.length S'.T,S'.kn++[nrQ p L row],S'.fd++[(t.1.1,row,nrQ p L row)]⟩ als (if_neg nk).symm;simp only[aP,aX,fU] at k;exact k
   ·rw[<-e2] at f2;refine bE (gH (k:=decide ((500:Int)<(((S2.fd.map fdD).length:Nat):Int))) (mU aFC (uT rfl zlen (aIQ 5 rfl (pv 5))) (aFU (i:=500) rfl hmt ⟨tm,rfl⟩) (jC _)) (decide_eq_false (by rw[aB];omega)) (cQ ?_));exact⟨[.val (.lst (L.map (mvD p))),.val (.int b),.val (.tup (bY (st0 p))),wtS P w K ⟨l3,ls3,S2.T⟩,oG (hkT P w) K l4 (S2.kn.map mQ) (S2.kn.map λ_=>.bl true),.own l5 (S2.fd.map fdD),.val (rkD t.1),.val (.lst ((jH t.2).map p2D)),.un,.un],⟨.inr rfl,.inr rfl,.inr rfl,.inr rfl,.inr rfl,.inr rfl,.inr rfl,.inr rfl,.inl rfl,.inl rfl,trivial⟩,S2,ls3,e2,rfl⟩
  ·obtain⟨S',ls3,eS,rfl⟩:=hn;rw[aB,fM] at eS;subst eS;exact⟨m',[.val (.lst (L.map (mvD p))),.val (.int b),.val (.tup (bY (st0 p))),wtS P w K ⟨l3,ls3,(fdP p L b t.1 S1 (jH t.2)).T⟩,oG (hkT P w) K l4 ((fdP p L b t.1 S1 (jH t.2)).kn.map mQ) ((fdP p L b t.1 S1 (jH t.2)).kn.map λ_=>.bl true),.own l5 ((fdP p L b t.1 S1 (jH t.2)).fd.map fdD),.un,.un,.un,.un],jO _,⟨.inr rfl,.inr rfl,.inr rfl,.inr rfl,.inr rfl,.inr rfl,.inl rfl,.inl rfl,.inr rfl,.inr rfl,trivial⟩,fdP p L b t.1 S1 (jH t.2),dn++(jH t.2).map rwP,t.1,ls3,W2,by rw[bB,aB];omega,hR2,rfl⟩
theorem aBN(F:Fun K "table_from" "table_from" aCO f fd)(ztuple:mg "tuple"=none)(hm:mg "table_from"=some (.ref f)):bL P w K mg base "table_from" 1 2 aHi:=by
 have nd:(["every","numbers"]:List Str).Nodup:=by decide+kernel
 have nd2:(["number","every"]:List Str).Nodup:=by decide+kernel
 refine eJ (N:=["every","numbers"]) (ps:=["every","numbers"]) (k:=0) F ⟨rfl,rfl,rfl,nd,rfl,by decide+kernel,by decide+kernel⟩ hm (λ_ _ _ _ _ _ us hl=>match us,hl with | [_,_],_=>rfl) λcdv A outer s H E hr ds r hl c=> ?_
 obtain⟨B,nb,h1,h2,rfl,rfl⟩:=c
 have ec:((bY nb).filter λ_=>true).map (λd=>match d with | .int i=>bG (B.getD i.toNat [])|_=>.non)=(nb.map λi=>B.getD i []).map bG:=by rw[eH.mpr (λ_ _=>rfl)];unfold bY;rw[aV,aV];rfl
 refine bE (bT (nC rfl ztuple (PEd.bor (PEd.val (PEd.cast (jE (ds:=bY nb) (N:=["number","every"]) (M:=["every","numbers"]) (cap:=[none,some 0]) (sc:=bI aCO) (Tb:=λd=>[.val d,.val (.lst (B.map bG))]) (λ_=>true) (λd=>match d with | .int i=>bG (B.getD i.toNat [])|_=>.non) (pO (aC 1 rfl (pv 1))) (by rw[rC];omega) rfl (by decide+kernel) rfl (by decide+kernel) rfl (λcl C fp s H d hd=>eV 0 (cP (i:=0) nd2 rfl (Or.inl rfl))) (λd hd=>⟨.inl rfl,.inr rfl,trivial⟩) (λcl C fp s H d hd=>.inl ⟨rfl,rfl⟩) λcl C2 fp s H d hd _=> ?_) (by rw[ec]))))) trivial rfl);obtain⟨i,hi,rfl⟩:=aO.mp hd;exact nY (n:=i) (PEd.bor (aC 1 rfl (pv 1))) (aC 0 rfl (pv 0)) (rO (h2 i hi)) λ_ _=>rfl
theorem aEQ(F:Fun K "book_of" "book_of" aIx f fd)(zlen:mg "len"=none)(zrange:mg "range"=none)(ztuple:mg "tuple"=none)(hm:mg "book_of"=some (.ref f))(GF:bL P w K mg base "fillings" 2 1 aFA)(GM:bL P w K mg base "moves_of" 5 2 aHq)(GR:bL P w K mg base "found_rows" 3 3 aHp)(GT:bL P w K mg base "table_from" 1 2 aHi):bL P w K mg base "book_of" 6 3 aIG:=by
 have nd:(["size","stock","bound","every","found"]:List Str).Nodup:=by decide+kernel
 have nd2:(["price","row","numbers","every"]:List Str).Nodup:=by decide+kernel
 refine eJ (N:=["size","stock","bound","every","found"]) (ps:=["size","stock","bound"]) (k:=5) F ⟨rfl,rfl,rfl,nd,rfl,by decide+kernel,by decide+kernel⟩ hm (λ_ _ _ _ _ _ us hl=>match us,hl with | [_,_,_],_=>rfl) λcdv A outer s H E hr ds r hl c=> ?_
 obtain⟨p,L,b,U,hp,S,dn,FU,rfl,rfl⟩:=c;have hr1:=hr.mono (show 1<=5 by decide);have hr2:=hr.mono (show 2<=5 by decide);have hr3:=hr.mono (show 3<=5 by decide);have f9:(bV p).length<=64:=lI hp;have O:=aHx (p:=p) S.pr FU;have l4:=O.len;refine aG (iG (ds:=(bV p).map bG) 3 nd rfl (Or.inr rfl) (bW (ds:=[cS p]) GF hr2 rfl (aE (aC 0 rfl (pv 0)) aU) ⟨p,hp,rfl,rfl⟩ trivial rfl) λl5=>mJ 3 rfl ?_);refine aG (iG (ds:=(bkF p L b).map fdD) 4 nd rfl (Or.inl rfl) (bW (ds:=[.lst (L.map (mvD p)),.int b,.tup (bY (st0 p))]) GR hr3 rfl (aE (PEd.val (bW (ds:=[cS p,.lst (L.map skD)]) GM hr rfl (aE (aC 0 rfl (pv 0)) (aE (aC 1 rfl (pv 1)) aU)) ⟨p,L,hp,S,dn,rfl,rfl⟩ trivial rfl)) (aE (aC 2 rfl (pv 2)) (aE (aAL (n:=(bV p).length) rfl ztuple rfl zrange (PEd.ic (uT rfl zlen (PEd.bor (aC 3 rfl (pv 3)))) (by rw[aB])) (by omega)) aU))) ⟨p,L,b,U,hp,S,FU,rfl,rfl⟩ trivial rfl) λl4=>mJ 4 rfl ?_)
 have ec:(((bkF p L b).map fdD).filter λ_=>true).map (λd=>enD ((unE d).1,(unE d).2.1,jP p (unE d).2.2))=(bkQ p L b).map enD:=by
  rw[eH.mpr (λ_ _=>rfl),aV];unfold bkQ;rw[aV];refine cM λe _=> ?_
  show enD ((unE (fdD e)).1,(unE (fdD e)).2.1,jP p (unE (fdD e)).2.2)=_;rw[aIB];rfl
 refine bE (bT (PEd.cast (jE (ds:=(bkF p L b).map fdD) (N:=["price","row","numbers","every"]) (M:=["size","stock","bound","every","found"]) (cap:=[none,none,none,some 3]) (sc:=bI aIx) (Tb:=λd=>[.val (.int (unE d).1),.val (.tup (bY (unE d).2.1)),.val (.tup (bY (unE d).2.2)),.val (.lst ((bV p).map bG))]) (λ_=>true) (λd=>enD ((unE d).1,(unE d).2.1,jP p (unE d).2.2)) (gU (aC 4 rfl (pv 4))) (by rw[aB];omega) rfl (by decide+kernel) rfl (by decide+kernel) rfl (λcl C fp s H d hd=> ?_) (λd hd=>⟨.inl rfl,.inl rfl,.inl rfl,.inr rfl,trivial⟩) (λcl C fp s H d hd=>.inl ⟨rfl,rfl⟩) λcl C2 fp s H d hd _=> ?_) (by rw[ec])) trivial rfl)
 ·obtain⟨e,he,rfl⟩:=aO.mp hd;rw[aIB];exact kQ (ds:=[.int e.1,.tup (bY e.2.1),.tup (bY e.2.2)]) (js:=[0,1,2]) rfl (eU (cP (i:=0) nd2 rfl (Or.inl rfl)) (eU (cP (i:=1) nd2 rfl (Or.inl rfl)) (eU (cP (i:=2) nd2 rfl (Or.inl rfl)) kO))) rfl rfl
 ·obtain⟨e,he,rfl⟩:=aO.mp hd;rw[aIB];obtain⟨h1,h2,h3,h4,h5⟩:=O.ent e he;have nbo:=(yN hp (λs hs=>(S.st s hs).1) h1).1;rw[<-h4] at nbo;exact fW (ds:=[.int e.1,.tup (bY e.2.1),.tup ((jP p e.2.2).map bG)]) (aE (aC 0 rfl (pv 0)) (aE (aC 1 rfl (pv 1)) (aE (bW (ds:=[.lst ((bV p).map bG),.tup (bY e.2.2)]) GT hr1 rfl (aE (aC 3 rfl (pv 3)) (aE (aC 2 rfl (pv 2)) aU)) ⟨bV p,e.2.2,by rw[nbo.1];omega,nbo.2,rfl,rfl⟩ trivial rfl) aU))) (aF rfl)
theorem aEH(F:Fun K "misses_at" "misses_at" aIy f fd)(zenumerate:mg "enumerate"=none)(hm:mg "misses_at"=some (.ref f))(GF:bL P w K mg base "fillings" 2 1 aFA):bL P w K mg base "misses_at" 3 3 aLh:=by
 have nd:(["size","wish","table","number","filling"]:List Str).Nodup:=by decide+kernel
 refine eJ (N:=["size","wish","table","number","filling"]) (ps:=["size","wish","table"]) (k:=2) F ⟨rfl,rfl,rfl,nd,rfl,by decide+kernel,by decide+kernel⟩ hm (λ_ _ _ _ _ _ us hl=>match us,hl with | [_,_,_],_=>rfl) λcdv A outer s H E hr ds r hl c=> ?_
 obtain⟨p,w,T,hp,W,OT,rfl,rfl⟩:=c;have hu:(A.deeper (Aj "misses_at" (bI aIy) s.heap.objs.size f cdv)).units+4<AQ:=by have:=hr.un;omega
 refine aG (hX (ds:=tS ((bV p).map bG)) (λk sd=>(∀j,j<k->aIs w T j=false)/\sd=[.val (cS p),.val (.lst (w.map wsD)),.val (.tup (T.map bG)),.un,.un]) (aBh rfl zenumerate (PEd.val (bW (ds:=[cS p]) GF hr rfl (aE (aC 0 rfl (pv 0)) aU) ⟨p,hp,rfl,rfl⟩ trivial rfl))) ⟨_,Le.refl _,λj hj=>by omega,rfl⟩ (λk d sdk hd hk=> ?_) λsdn hn=> ?_)
 ·obtain⟨x,hx,rfl⟩:=sY hd;obtain⟨hk2,rfl⟩:=nH hx;obtain⟨hn,rfl⟩:=hk;have kT:k<T.length:=by rw[OT.len];exact hk2
  have kW:k<w.length:=by rw[W.len];exact hk2
  refine⟨[.val (cS p),.val (.lst (w.map wsD)),.val (.tup (T.map bG)),.val (.int (k:Int)),.val (bG ((bV p).getD k []))],kQ (js:=[3,4]) rfl (eU (cP (i:=3) nd rfl (Or.inl rfl)) (eU (cP (i:=4) nd rfl (Or.inl rfl)) kO)) rfl rfl, ?_⟩;refine bE (gF (k:=aIs w T k) ?_ (λh=> ?_) λh=>cQ ?_)
  ·have ka:=aKV kW;unfold aIs;cases hq:w.getD k none with
   |none=>rw[hq] at ka;exact PWd.pt (uQ (k:=false) (j:=false) (qZ (d:=.non) (nY (n:=k) (d:=.non) (PEd.bor (aC 1 rfl (pv 1))) (aC 3 rfl (pv 3)) ka λ_ _=>rfl) mP) λh=>by cases h)
   |some L=>rw[hq] at ka;exact PWd.pt (uQ (k:=true) (j:= !decide (T.getD k []∈L)) (qZ (d:=.lst (L.map bG)) (nY (n:=k) (d:=.lst (L.map bG)) (PEd.bor (aC 1 rfl (pv 1))) (aC 3 rfl (pv 3)) ka λ_ _=>rfl) mP) λ_=>aAZ (PTd.cast (wU (d:=bG (T.getD k [])) (ds:=L.map bG) (dD (n:=k) (aC 2 rfl (pv 2)) (aC 3 rfl (pv 3)) (rO kT) λ_ _=>rfl) (nY (n:=k) (d:=.lst (L.map bG)) (PEd.bor (aC 1 rfl (pv 1))) (aC 3 rfl (pv 3)) ka λ_ _=>rfl) (qV _) (oZ L) (by have:=nA L;show(A.deeper _).units+1+_<AQ;omega)) (by rw[aBy])))
  ·refine bE (bT (aC 4 rfl (pv 4)) trivial ?_);show R.val _=R.val (aNl (pZ w (bV p) T));rw[show pZ w (bV p) T=some ((bV p).getD k []) from uV hk2 h hn];rfl
  ·refine⟨[.val (cS p),.val (.lst (w.map wsD)),.val (.tup (T.map bG)),.un,.un],⟨.inr rfl,.inr rfl,.inr rfl,.inl rfl,.inl rfl,trivial⟩,λj hj=> ?_,rfl⟩
   by_cases q:j<k
   ·exact hn j q
   ·have:j=k:=by omega
    subst this;exact h
 ·obtain⟨hn,rfl⟩:=hn;rw[pM,aB] at hn;refine bE (bT mP trivial ?_);show R.val _=R.val (aNl (pZ w (bV p) T));rw[show pZ w (bV p) T=none from vL hn];rfl
theorem aIT(F:Fun K "does_wish" "does_wish" aLp f fd)(hm:mg "does_wish"=some (.ref f))(GM:bL P w K mg base "misses_at" 3 3 aLh):bL P w K mg base "does_wish" 4 3 aLk:=by
 have nd:(["size","wish","table"]:List Str).Nodup:=by decide+kernel
 refine eJ (N:=["size","wish","table"]) (ps:=["size","wish","table"]) (k:=3) F ⟨rfl,rfl,rfl,nd,rfl,by decide+kernel,by decide+kernel⟩ hm (λ_ _ _ _ _ _ us hl=>match us,hl with | [_,_,_],_=>rfl) λcdv A outer s H E hr ds r hl c=> ?_
 obtain⟨p,w,T,hp,W,OT,rfl,rfl⟩:=c;exact bE (bT (PEd.cast (aMT (bW (ds:=[cS p,.lst (w.map wsD),.tup (T.map bG)]) GM hr rfl (aE (aC 0 rfl (pv 0)) (aE (aC 1 rfl (pv 1)) (aE (aC 2 rfl (pv 2)) aU))) ⟨p,w,T,hp,W,OT,rfl,rfl⟩ trivial rfl) mP) (by rw[aKe])) trivial rfl)
theorem aJz(F:Fun K "first_that_does" "first_that_does" sFt f fd)(hm:mg "first_that_does"=some (.ref f))(GD:bL P w K mg base "does_wish" 4 3 aLk):bL P w K mg base "first_that_does" 5 3 aLy:=by
 have nd:(["size","book","wish","entry"]:List Str).Nodup:=by decide+kernel
 refine eJ (N:=["size","book","wish","entry"]) (ps:=["size","book","wish"]) (k:=4) F ⟨rfl,rfl,rfl,nd,rfl,by decide+kernel,by decide+kernel⟩ hm (λ_ _ _ _ _ _ us hl=>match us,hl with | [_,_,_],_=>rfl) λcdv A outer s H E hr ds r hl c=> ?_
 obtain⟨p,L,b,B,w,hp,S,O,W,rfl,rfl⟩:=c;refine aG (hX (ds:=B.map enD) (λt sd=>ftQ p w B=ftQ p w (B.drop t)/\sd=[.val (cS p),.val (.lst (B.map enD)),.val (.lst (w.map wsD)),.un]) (gU (aC 1 rfl (pv 1))) ⟨_,Le.refl _,rfl,rfl⟩ (λt d sdt hd ht=> ?_) λsdn hn=> ?_)
 ·obtain⟨q,rfl⟩:=ht;obtain⟨e,he,rfl,_⟩:=lO hd;obtain⟨tl,ee⟩:=aN.mp he;obtain⟨x1,x2,x3,x4,x5⟩:=O.ent e (bD he);have tk:zF p e.2.2:=by rw[x4];exact aCY hp S x1
  rw[dJ tl,ee] at q;refine⟨[.val (cS p),.val (.lst (B.map enD)),.val (.lst (w.map wsD)),.val (enD e)],eV 3 (cP (i:=3) nd rfl (Or.inl rfl)), ?_⟩;refine bE (gF (k:=doQ p w e.2.2) (qY (bW (ds:=[cS p,.lst (w.map wsD),.tup (e.2.2.map bG)]) GD hr rfl (aE (aC 0 rfl (pv 0)) (aE (aC 2 rfl (pv 2)) (aE (dD (n:=2) (ds:=[.int e.1,.tup (bY e.2.1),.tup (e.2.2.map bG)]) (aC 3 rfl (pv 3)) bA rfl λ_ _=>rfl) aU))) ⟨p,w,e.2.2,hp,W,tk,rfl,rfl⟩ trivial rfl)) (λh=> ?_) λh=>cQ ?_)
  ·have e3:ftQ p w B=some e:=by rw[q];exact aCo (p:=λe:Bk=>doQ p w e.2.2) h
   rw[e3];exact bE (bT (aC 3 rfl (pv 3)) trivial rfl)
  ·refine⟨[.val (cS p),.val (.lst (B.map enD)),.val (.lst (w.map wsD)),.un],⟨.inr rfl,.inr rfl,.inr rfl,.inl rfl,trivial⟩, ?_,rfl⟩;rw[q];exact aCp (p:=λe:Bk=>doQ p w e.2.2) (by rw[h];decide)
 ·obtain⟨q,rfl⟩:=hn;rw[aB,oN] at q;rw[q];exact bE (bT mP trivial rfl)
noncomputable def aNp(m:Int):D->Bool
 |.tup (.int a::_)=>decide (a<m)
 |_=>false
theorem aJU(F:Fun K "least_row" "least_row" sLr f fd)(hm:mg "least_row"=some (.ref f))(GO:bL P w K mg base "book_of" 6 3 aIG)(GT:bL P w K mg base "first_that_does" 5 3 aLy):bL P w K mg base "least_row" 7 4 (aLd K):=by
 have nd:(["size","stock","bound","wish","book","found"]:List Str).Nodup:=by decide+kernel
 have nd2:(["entry","found"]:List Str).Nodup:=by decide+kernel
 refine eJ (N:=["size","stock","bound","wish","book","found"]) (ps:=["size","stock","bound","wish"]) (k:=6) F ⟨rfl,rfl,rfl,nd,rfl,by decide+kernel,by decide+kernel⟩ hm (λ_ _ _ _ _ _ us hl=>match us,hl with | [_,_,_,_],_=>rfl) λcdv A outer s H E hr ds r hl c=> ?_
 obtain⟨p,L,b,U,w,hp,S,dn,FU,W,rfl,rfl⟩:=c;have hr5:=hr.mono (show 5<=6 by decide);have O:=aHY hp S FU;refine aG (iG (ds:=(bkQ p L b).map enD) 4 nd rfl (Or.inl rfl) (bW (ds:=[cS p,.lst (L.map skD),.int b]) GO hr rfl (aE (aC 0 rfl (pv 0)) (aE (aC 1 rfl (pv 1)) (aE (aC 2 rfl (pv 2)) aU))) ⟨p,L,b,U,hp,S,dn,FU,rfl,rfl⟩ trivial rfl) λl4=> ?_);generalize bkQ p L b=B at O;have bl:=O.len;unfold lrR;cases hq:ftQ p w B with
 |none=>refine aG (cB (d:=.non) 5 nd rfl (Or.inr rfl) (PEd.lend 4 rfl (aIF rfl) rfl (bW (r:=.val .non) (ds:=[cS p,.lst (B.map enD),.lst (w.map wsD)]) GT hr5 rfl (aE (aC 0 rfl (pv 0)) (aE (aC 4 rfl (pv 4)) (aE (aC 3 rfl (pv 3)) aU))) ⟨p,L,b,B,w,hp,S,O,W,rfl,by rw[hq];rfl⟩ trivial rfl)) ?_);refine aG (iV (k:=true) (PTd.cast (aCX (d:=.non) (aC 5 rfl (pv 5)) mP) rfl) rfl ?_);exact bE (aEh 4 rfl (pv 4) dL rfl)
 |some e=>
  refine mJ 4 rfl ?_;refine aG (cB (d:=enD e) 5 nd rfl (Or.inr rfl) (bW (r:=.val (enD e)) (ds:=[cS p,.lst (B.map enD),.lst (w.map wsD)]) GT hr5 rfl (aE (aC 0 rfl (pv 0)) (aE (aC 4 rfl (pv 4)) (aE (aC 3 rfl (pv 3)) aU))) ⟨p,L,b,B,w,hp,S,O,W,rfl,by rw[hq];rfl⟩ trivial rfl) ?_)
  have ec:((B.map enD).filter (aNp e.1)).map id=(B.filter λx=>decide (x.1<e.1)).map enD:=by rw[jG,xO];rfl
  refine aG (gH (k:=false) (PTd.cast (aCX (d:=enD e) (aC 5 rfl (pv 5)) mP) rfl) rfl (cQ ?_));refine bE (aET (ls:=(B.filter λx=>decide (x.1<e.1)).map enD) dL (dD (n:=1) (ds:=[.int e.1,.tup (bY e.2.1),.tup (e.2.2.map bG)]) (d:=.tup (bY e.2.1)) (aC 5 rfl (pv 5)) bA rfl λ_ _=>rfl) (PEd.cast (jE (ds:=B.map enD) (N:=["entry","found"]) (M:=["size","stock","bound","wish","book","found"]) (cap:=[none,some 5]) (sc:=bI sLr) (Tb:=λd=>[.val d,.val (enD e)]) (aNp e.1) id (gU (aC 4 rfl (pv 4))) (by rw[aB];omega) rfl (by decide+kernel) rfl (by decide+kernel) rfl (λcl C fp s H d hd=>eV 0 (cP (i:=0) nd2 rfl (Or.inl rfl))) (λd hd=>⟨.inl rfl,.inr rfl,trivial⟩) (λcl C fp s H d hd=>.inr ⟨_,rfl, ?_⟩) λcl C2 fp s H d hd _=>(aC 0 rfl (pv 0))) (by rw[ec])) rfl);obtain⟨x,_,rfl⟩:=aO.mp hd;exact mU (g:=λi j=>decide (i<j)) aFw (dD (n:=0) (ds:=[.int x.1,.tup (bY x.2.1),.tup (x.2.2.map bG)]) (d:=.int x.1) (aC 0 rfl (pv 0)) bA rfl λ_ _=>rfl) (dD (n:=0) (ds:=[.int e.1,.tup (bY e.2.1),.tup (e.2.2.map bG)]) (d:=.int e.1) (aC 1 rfl (pv 1)) bA rfl λ_ _=>rfl) (jC _)
theorem aEz(F:Fun K "_law_cell_at" "_law_cell_at" aDN f fd)(zlen:mg "len"=none)(hm:mg "_law_cell_at"=some (.ref f)):bL P w K mg base "_law_cell_at" 1 2 aFy:=by
 have nd:(["_law_script","_law_k"]:List Str).Nodup:=by decide+kernel
 refine eJ (N:=["_law_script","_law_k"]) (ps:=["_law_script","_law_k"]) (k:=0) F ⟨rfl,rfl,rfl,nd,rfl,by decide+kernel,by decide+kernel⟩ hm (λ_ _ _ _ _ _ us hl=>match us,hl with | [_,_],_=>rfl) λcdv A outer s H E hr ds r hl c=> ?_
 obtain⟨ns,k,rfl,hk,rfl⟩:=c;refine aG (gF (mU aFw (aC 1 rfl (pv 1)) (aJI rfl zlen (aC 0 rfl (pv 0))) (jC _)) (λh=> ?_) λh=>cQ ?_)
 ·have h':k<ns.length:=by simpa using h
  exact bE (bT (aMi (z:=ns.getD k 0) (aC 0 rfl (pv 0)) (aC 1 rfl (pv 1)) (by simp[h']) λ_ _=>rfl) trivial rfl)
 ·have h':¬ k<ns.length:=by simpa using h
  refine bE (bT bA trivial ?_);show R.val (.int 0)=R.val (.int (ns.getD k 0));simp[bR,h']
theorem aGm(F:Fun K "_law_mixed" "_law_mixed" aHM f fd)(hm:mg "_law_mixed"=some (.ref f)):bL P w K mg base "_law_mixed" 1 2 CMx:=by
 have nd:(["_law_cell","_law_k","_law_number"]:List Str).Nodup:=by decide+kernel
 refine eJ (N:=["_law_cell","_law_k","_law_number"]) (ps:=["_law_cell","_law_k"]) (k:=0) F ⟨rfl,rfl,rfl,nd,rfl,by decide+kernel,by decide+kernel⟩ hm (λ_ _ _ _ _ _ us hl=>match us,hl with | [_,_],_=>rfl) λcdv A outer s H E hr ds r hl c=> ?_
 obtain⟨c,k,rfl,hk,rfl⟩:=c;have kb:((k:Nat):Int).natAbs<2^250:=bQ (by omega:_<=1000) (by decide);refine aG (gF (rD (cJ eX (aC 0 rfl (pv 0)) bA (by decide)) bA) (λh=> ?_) λh=>cQ ?_)
 ·have h':c%2=0:=by simpa using h
  have e2:(2:Int)*2^((8:Int)*(k:Int)).toNat=((2^(8*k+1):Nat):Int):=by
   have:((8:Int)*(k:Int)).toNat=8*k:=by omega
   rw[this,pD]
   push_cast
   exact aPr _ _
  have lg:(2^(8*k+1):Nat).log2<9000:=by rw[Nat.log2_two_pow];omega
  refine bE (bT (cJ lP (aC 0 rfl (pv 0)) (PEd.ic (cJ aHB bA (cJ iW bA (aC 1 rfl (pv 1)) (iP (by decide) kb)) ⟨by omega,by omega,by decide⟩) e2) ⟨pw0 _,lg⟩) trivial ?_);unfold mxS;rw[if_pos h']
 have h':¬ c%2=0:=by simpa using h
 have c1:=dP c (show(2147483647:Int)≠0 by decide);have c2:=cK c (show(0:Int)<2147483647 by decide);have big:∀z:Int,0<=z/\z<2147483647+69621*400+7919->z.natAbs<2^250:=λz hz=>bQ (by omega:z.natAbs<=3000000000) (by decide)
 refine aG (cB (d:=.int (mx1 c k)) 2 nd rfl (Or.inl rfl) (cJ eX (cJ iW (gO iL (gO iL (cJ eX (aC 0 rfl (pv 0)) bA (by decide)) (cJ iW bA (aC 1 rfl (pv 1)) (iP (by decide) kb))) bA) bA (iP (big _ ⟨by omega,by omega⟩) (by decide))) bA (by decide)) ?_);have r1:0<=mx1 c k/\mx1 c k<2147483647:=⟨dP _ (by decide),cK _ (by decide)⟩;refine aG (cB (d:=.int (mx2 c k)) 2 nd rfl (Or.inl rfl) (cJ eX (cJ iW (aC 2 rfl (pv 2)) (aC 2 rfl (pv 2)) (iP (big _ ⟨by omega,by omega⟩) (big _ ⟨by omega,by omega⟩))) bA (by decide)) ?_);have r2:0<=mx2 c k/\mx2 c k<2147483629:=⟨dP _ (by decide),cK _ (by decide)⟩;refine bE (bT (cJ eX (gO iL (cJ iW (aC 2 rfl (pv 2)) (aC 2 rfl (pv 2)) (iP (big _ ⟨by omega,by omega⟩) (big _ ⟨by omega,by omega⟩))) (cJ iW bA (aC 1 rfl (pv 1)) (iP (by decide) kb))) bA (by decide)) trivial ?_);unfold mxS;rw[if_neg h']
def aAU:List D->R->Prop:=λds r=>∃p,p∈bX/\ds=[cS p]/\r=.own ((iM (2^p.1.toNat) p.2.toNat).map bG)
theorem aBS(F:Fun K "_law_fillings" "_law_fillings" aCP f fd)(zrange:mg "range"=none)(hm:mg "_law_fillings"=some (.ref f)):bL P w K mg base "_law_fillings" 1 1 aAU:=by
 have nd:(["_law_size_here","_law_found","_law_box","_law_longer","_law_one"]:List Str).Nodup:=by decide+kernel
 refine eJ (N:=["_law_size_here","_law_found","_law_box","_law_longer","_law_one"]) (ps:=["_law_size_here"]) (k:=0) F ⟨rfl,rfl,rfl,nd,rfl,by decide+kernel,by decide+kernel⟩ hm (λ_ _ _ _ _ _ us hl=>match us,hl with | [_],_=>rfl) λcdv A outer s H E hr ds r hl c=> ?_
 obtain⟨p,hp,rfl,rfl⟩:=c;obtain⟨h1,h2,h3,h4,h5⟩:=uB p hp;have e2:p.2=((p.2.toNat:Nat):Int):=by omega
 have e1:p.1=((p.1.toNat:Nat):Int):=by omega
 have nd2:(["_law_word_here","_law_one"]:List Str).Nodup:=by decide+kernel
 have m64:2^p.1.toNat<=64:=by
  have:p.1.toNat<=6:=by omega
  exact cO (lJ (by decide) this) (by decide)
 refine aG (iG (ds:=[bG []]) 1 nd rfl (Or.inl rfl) (iA (ds:=[bG []]) (aE (fW (ds:=[]) aU (bS _)) aU) (aF rfl)) λl=> ?_);refine aG (hX (ds:=jJ 0 p.2.toNat) (λk sd=>∃l,sd=[.val (cS p),.own l ((iM (2^p.1.toNat) k).map bG),.un,.un,.un]) (kJ (n:=p.2.toNat) rfl zrange (PEd.cast (dD (n:=1) (d:=.int p.2) (aC 0 rfl (pv 0)) bA rfl λ_ _=>rfl) (by rw[<-e2])) (by omega)) ⟨_,Le.refl _,l,rfl⟩ (λk d sdk hd hk=> ?_) λsdn hn=> ?_)
 ·obtain⟨hk2,rfl⟩:=kK hd;obtain⟨l2,rfl⟩:=hk
  have hsm:(iM (2^p.1.toNat) k).length*2^p.1.toNat<=900:=by rw[rL];exact yE p hp k hk2
  have lens:=xC (2^p.1.toNat) k;have eL:iM (2^p.1.toNat) (k+1)=(iM (2^p.1.toNat) k).flatMap λs=>(bK (2^p.1.toNat)).map λ(w:Nat)=>s++[(w:Int)]:=rfl
  rw[eL];generalize iM (2^p.1.toNat) k=L at *;refine⟨_,eV 2 (cP (i:=2) nd rfl (Or.inl rfl)),mJ 1 rfl ?_⟩;refine aG (iG 3 nd rfl (Or.inl rfl) (iA (ds:=[]) aU (bS _)) λl3=> ?_);refine aG (uK (ds:=L.map bG) (λt=>[.val (cS p),.val (.lst (L.map bG)),.un,.own l3 (((L.take t).flatMap λs=>(bK (2^p.1.toNat)).map λ(w:Nat)=>s++[(w:Int)]).map bG),.un]) (λt=>[.val (cS p),.val (.lst (L.map bG)),.un,.own l3 (((L.take t).flatMap λs=>(bK (2^p.1.toNat)).map λ(w:Nat)=>s++[(w:Int)]).map bG),.val (bG (L.getD t []))]) (gU (aC 1 rfl (pv 1))) ⟨.inr rfl,.inr rfl,.inl rfl,.inr rfl,.inr rfl,trivial⟩ (λt d hd=> ?_) (λt d hd=> ?_) ?_)
  ·obtain⟨_,rfl⟩:=nH hd;exact eV 4 (cP (i:=4) nd rfl (Or.inr rfl))
  ·obtain⟨ht,rfl⟩:=nH hd;have hmem:L.getD t []∈L:=DL.getD_mem ht
   have et:L.take (t+1)=L.take t++[L.getD t []]:=by rw[fD];simp[bR,ht]
   have lk:(L.take t).length*2^p.1.toNat+2^p.1.toNat<=900:=by
    have h1:(L.take t).length+1<=L.length:=by rw[cT];omega
    have h2:=aFm (2^p.1.toNat) h1;rw[aFd] at h2;omega
   have ec:((jJ 0 (2^p.1.toNat)).filter λ_=>true).map (λd=>D.tup ((L.getD t []).map D.int++[d]))=((bK (2^p.1.toNat)).map λ(w:Nat)=>L.getD t []++[(w:Int)]).map bG:=by
    rw[eH.mpr (λ_ _=>rfl)];unfold jJ;rw[aV,aV];refine cM λw _=> ?_
    simp[bG]
   have lt:=lens _ hmem;refine bE (vM (ds2:=((bK (2^p.1.toNat)).map λ(w:Nat)=>L.getD t []++[(w:Int)]).map bG) 3 rfl (pv 3) (PEd.val (PEd.cast (jE (N:=["_law_word_here","_law_one"]) (M:=["_law_size_here","_law_found","_law_box","_law_longer","_law_one"]) (cap:=[none,some 4]) (sc:=bI aCP) (Tb:=λd=>[.val d,.val (bG (L.getD t []))]) (λ_=>true) (λd=>D.tup ((L.getD t []).map D.int++[d])) (kJ (n:=2^p.1.toNat) rfl zrange (uR (k:=p.1.toNat) (PEd.ic (dD (n:=0) (aC 0 rfl (pv 0)) bA rfl λ_ _=>rfl) e1) (by omega)) (by omega)) (by rw[iJ];omega) rfl (by decide+kernel) rfl (by decide+kernel) rfl (λcl C fp s H d _=>eV 0 (cP (i:=0) nd2 rfl (Or.inl rfl))) (λd _=>⟨.inl rfl,.inr rfl,trivial⟩) (λcl C fp s H d _=>.inl ⟨rfl,rfl⟩) λcl C fp s H d _ _=>mE (aC 1 rfl (pv 1)) (fW (ds:=[d]) (aE (aC 0 rfl (pv 0)) aU) (aF rfl)) ?_) (by rw[ec]))) ?_ ?_)
   ·simp only[aB,bU,iB];omega
   ·rw[aB,oU,aB,aB,eM];omega
   ·refine⟨.inr rfl,.inr rfl,.inr rfl,.inr ?_,.inl rfl,trivial⟩;rw[et,aFl,aP];simp
  ·rw[aB,fM];refine bE (aGr 1 3 rfl nd rfl (Or.inl rfl) (pv 3) ?_);exact⟨_,Le.refl _,l3,rfl⟩
 ·obtain⟨l2,rfl⟩:=hn;refine bE (nG 1 rfl (pv 1) ?_);show R.own _=R.own _;rw[iJ]
theorem zV:∀k,k<10->decide (V.str (nm k)=V.str "down")=decide (k=9):=by decide+kernel
theorem aHI{ws:List Int}{i:Nat}(h:i<ws.length):(ws.map D.int)[i]? =some (.int (ws.getD i 0)):=by simp[bR,h]
theorem aKh(F:Fun K "_law_word" "_law_word" aHJ f fd)(hm:mg "_law_word"=some (.ref f)):bL P w K mg base "_law_word" 1 3 aLe:=by
 have nd:(["_law_size_here","_law_step","_law_filling","_law_most","_law_name","_law_a","_law_b"]:List Str).Nodup:=by decide+kernel
 refine eJ (N:=["_law_size_here","_law_step","_law_filling","_law_most","_law_name","_law_a","_law_b"]) (ps:=["_law_size_here","_law_step","_law_filling"]) (k:=0) F ⟨rfl,rfl,rfl,nd,rfl,by decide+kernel,by decide+kernel⟩ hm (λ_ _ _ _ _ _ us hl=>match us,hl with | [_,_,_],_=>rfl) λcdv A outer s H E hr ds r hl c=> ?_
 obtain⟨p,⟨k,i,j,n⟩,ws,O,G,rfl,rfl⟩:=c;obtain⟨h1,h2,h3,h4,h5⟩:=uB p O.sz;have e1:p.1=((p.1.toNat:Nat):Int):=by omega
 have m0:=pw0 p.1.toNat;have wl:=G.len;obtain⟨_,k10,i0,j0,n0⟩:=O;simp only at i0 j0 k10;have ai:(ws.map D.int)[i.toNat]? =some (.int (ws.getD i.toNat 0)):=aHI (by omega);have aj:(ws.map D.int)[j.toNat]? =some (.int (ws.getD j.toNat 0)):=aHI (by omega);show PSd _ (init _ [cS p,iY k i j n,bG ws]) _ {nx:=λ_=>R.val (.int (newW k ((2^p.1.toNat:Nat):Int) (ws.getD i.toNat 0) (ws.getD j.toNat 0) n))=.val .non,rt:=λr'=>r'=.val (.int (newW k ((2^p.1.toNat:Nat):Int) (ws.getD i.toNat 0) (ws.getD j.toNat 0) n))};have t_put:=tO k k10;have t_not:=zQ k k10;have t_up:=aFD k k10;have t_dn:=zV k k10;refine aG (cB (d:=.int ((2^p.1.toNat:Nat):Int)) 3 nd rfl (Or.inl rfl) (uR (PEd.ic (dD (n:=0) (d:=.int p.1) (aC 0 rfl (pv 0)) bA rfl λ_ _=>rfl) e1) (by omega)) ?_)
 by_cases k6:k<6
 ·have es:iY k i j n=.tup [.str (nm k),.int i,.int j]:=by unfold iY;rw[if_pos k6]
  have en:newW k ((2^p.1.toNat:Nat):Int) (ws.getD i.toNat 0) (ws.getD j.toNat 0) n=aFs k ((2^p.1.toNat:Nat):Int) (ws.getD i.toNat 0) (ws.getD j.toNat 0):=by unfold newW;rw[if_neg (by omega),if_neg (by omega)]
  rw[es,en];refine aG (cB (d:=.str (nm k)) 4 nd rfl (Or.inl rfl) (dD (n:=0) (aC 1 rfl (pv 1)) bA rfl λ_ _=>rfl) ?_);refine aG (cB (d:=.int (ws.getD i.toNat 0)) 5 nd rfl (Or.inl rfl) (mD (i:=i) (aC 2 rfl (pv 2)) (dD (n:=1) (aC 1 rfl (pv 1)) bA rfl λ_ _=>rfl) i0.1 ai λ_ _=>rfl) ?_);refine aG (gH (cX (aC 4 rfl (pv 4)) dL rfl rfl rfl t_put) (decide_eq_false (by omega)) (cQ ?_));refine aG (gH (cX (aC 4 rfl (pv 4)) dL rfl rfl rfl t_not) (decide_eq_false (by omega)) (cQ ?_));refine aG (gH (cX (aC 4 rfl (pv 4)) dL rfl rfl rfl t_up) (decide_eq_false (by omega)) (cQ ?_));refine aG (gH (cX (aC 4 rfl (pv 4)) dL rfl rfl rfl t_dn) (decide_eq_false (by omega)) (cQ ?_));refine aG (cB (d:=.int (ws.getD j.toNat 0)) 6 nd rfl (Or.inl rfl) (mD (i:=j) (aC 2 rfl (pv 2)) (dD (n:=2) (aC 1 rfl (pv 1)) bA rfl λ_ _=>rfl) j0.1 aj λ_ _=>rfl) ?_)
  by_cases k0':k=0
  ·refine aG (iV (cX (aC 4 rfl (pv 4)) dL rfl rfl rfl (aCI k k10)) (decide_eq_true k0') (bE (bT (gO aHu (aC 5 rfl (pv 5)) (aC 6 rfl (pv 6))) trivial ?_)));rw[k0'];rfl
  refine aG (gH (cX (aC 4 rfl (pv 4)) dL rfl rfl rfl (aCI k k10)) (decide_eq_false k0') (cQ ?_))
  by_cases k1':k=1
  ·refine aG (iV (cX (aC 4 rfl (pv 4)) dL rfl rfl rfl (aIH k k10)) (decide_eq_true k1') (bE (bT (gO aLq (aC 5 rfl (pv 5)) (aC 6 rfl (pv 6))) trivial ?_)));rw[k1'];rfl
  refine aG (gH (cX (aC 4 rfl (pv 4)) dL rfl rfl rfl (aIH k k10)) (decide_eq_false k1') (cQ ?_))
  by_cases k2':k=2
  ·refine aG (iV (cX (aC 4 rfl (pv 4)) dL rfl rfl rfl (aCz k k10)) (decide_eq_true k2') (bE (bT (gO aHm (aC 5 rfl (pv 5)) (aC 6 rfl (pv 6))) trivial ?_)));rw[k2'];rfl
  refine aG (gH (cX (aC 4 rfl (pv 4)) dL rfl rfl rfl (aCz k k10)) (decide_eq_false k2') (cQ ?_))
  by_cases k3':k=3
  ·refine aG (iV (cX (aC 4 rfl (pv 4)) dL rfl rfl rfl (aCL k k10)) (decide_eq_true k3') (bE (bT (cJ eX (gO iL (aC 5 rfl (pv 5)) (aC 6 rfl (pv 6))) (aC 3 rfl (pv 3)) m0) trivial ?_)));rw[k3'];rfl
  refine aG (gH (cX (aC 4 rfl (pv 4)) dL rfl rfl rfl (aCL k k10)) (decide_eq_false k3') (cQ ?_))
  by_cases k4':k=4
  ·refine aG (iV (cX (aC 4 rfl (pv 4)) dL rfl rfl rfl (aAB k k10)) (decide_eq_true k4') (bE (bT (cJ eX (gO qG (aC 5 rfl (pv 5)) (aC 6 rfl (pv 6))) (aC 3 rfl (pv 3)) m0) trivial ?_)));rw[k4'];rfl
  refine aG (gH (cX (aC 4 rfl (pv 4)) dL rfl rfl rfl (aAB k k10)) (decide_eq_false k4') (cQ ?_));have k5:k=5:=by omega
  refine bE (bT (aC 6 rfl (pv 6)) trivial ?_);rw[k5];rfl
 by_cases k6':k=6
 ·have es:iY k i j n=.tup [.str (nm k),.int i,.int n]:=by unfold iY;rw[if_neg k6,if_pos k6']
  rw[es];refine aG (cB (d:=.str (nm k)) 4 nd rfl (Or.inl rfl) (dD (n:=0) (aC 1 rfl (pv 1)) bA rfl λ_ _=>rfl) ?_);refine aG (cB (d:=.int (ws.getD i.toNat 0)) 5 nd rfl (Or.inl rfl) (mD (i:=i) (aC 2 rfl (pv 2)) (dD (n:=1) (aC 1 rfl (pv 1)) bA rfl λ_ _=>rfl) i0.1 ai λ_ _=>rfl) ?_);refine aG (iV (cX (aC 4 rfl (pv 4)) dL rfl rfl rfl t_put) (decide_eq_true k6') (bE (bT (dD (n:=2) (aC 1 rfl (pv 1)) bA rfl λ_ _=>rfl) trivial ?_)));rw[k6'];rfl
 have es:iY k i j n=.tup [.str (nm k),.int i]:=by unfold iY;rw[if_neg k6,if_neg k6']
 rw[es];refine aG (cB (d:=.str (nm k)) 4 nd rfl (Or.inl rfl) (dD (n:=0) (aC 1 rfl (pv 1)) bA rfl λ_ _=>rfl) ?_);refine aG (cB (d:=.int (ws.getD i.toNat 0)) 5 nd rfl (Or.inl rfl) (mD (i:=i) (aC 2 rfl (pv 2)) (dD (n:=1) (aC 1 rfl (pv 1)) bA rfl λ_ _=>rfl) i0.1 ai λ_ _=>rfl) ?_);refine aG (gH (cX (aC 4 rfl (pv 4)) dL rfl rfl rfl t_put) (decide_eq_false (by omega)) (cQ ?_))
 by_cases k7:k=7
 ·refine aG (iV (cX (aC 4 rfl (pv 4)) dL rfl rfl rfl t_not) (decide_eq_true k7) (bE (bT (gO qG (gO qG (aC 3 rfl (pv 3)) bA) (aC 5 rfl (pv 5))) trivial ?_)));rw[k7];rfl
 refine aG (gH (cX (aC 4 rfl (pv 4)) dL rfl rfl rfl t_not) (decide_eq_false k7) (cQ ?_))
 by_cases k8:k=8
 ·refine aG (iV (cX (aC 4 rfl (pv 4)) dL rfl rfl rfl t_up) (decide_eq_true k8) (bE (bT (PEd.ic (cJ eX (cJ aNa bA (aC 5 rfl (pv 5)) (.inl ⟨by decide,by decide⟩)) (aC 3 rfl (pv 3)) m0) (by rw[aPr])) trivial ?_)));rw[k8];rfl
 refine aG (gH (cX (aC 4 rfl (pv 4)) dL rfl rfl rfl t_up) (decide_eq_false k8) (cQ ?_));have k9:k=9:=by omega
 refine aG (iV (cX (aC 4 rfl (pv 4)) dL rfl rfl rfl t_dn) (decide_eq_true k9) (bE (bT (cJ lP (aC 5 rfl (pv 5)) bA ⟨by decide,by decide⟩) trivial ?_)));rw[k9];rfl
theorem aGO(q:SQ):∃es,sqD q=.tup (.str (nm q.1)::.int q.2.1::es):=by
 show ∃es,iY _ _ _ _=_;unfold iY
 split
 ·exact⟨_,rfl⟩
 ·split
  ·exact⟨_,rfl⟩
  ·exact⟨_,rfl⟩
theorem aGo(F:Fun K "_law_after" "_law_after" aPo f fd)(hm:mg "_law_after"=some (.ref f))(GW:bL P w K mg base "_law_word" 1 3 aLe):bL P w K mg base "_law_after" 2 3 aHG:=by
 have nd:(["_law_size_here","_law_step","_law_filling"]:List Str).Nodup:=by decide+kernel
 refine eJ (N:=["_law_size_here","_law_step","_law_filling"]) (ps:=["_law_size_here","_law_step","_law_filling"]) (k:=1) F ⟨rfl,rfl,rfl,nd,rfl,by decide+kernel,by decide+kernel⟩ hm (λ_ _ _ _ _ _ us hl=>match us,hl with | [_,_,_],_=>rfl) λcdv A outer s H E hr ds r hl c=> ?_
 obtain⟨p,q,ws,O,G,rfl,rfl⟩:=c;obtain⟨h1,h2,h3,h4,h5⟩:=uB p O.sz;have wl:=G.len;have i0:=O.i0;have li:q.2.1.toNat<ws.length:=by omega
 have ei:q.2.1=((q.2.1.toNat:Nat):Int):=by omega
 obtain⟨es0,es1⟩:=aGO q;have bx:∀ {X:Cx}{sd:List Slot}{a:Expr}{n0:Nat}{p1 p2:Pos},PEd X sd a (.val (sqD q))->PEd X sd (.Subscript a (.Constant (.int 1) n0 p1) p2) (.val (.int ((q.2.1.toNat:Nat):Int))):=λha=>PEd.ic (dD (n:=1) (ds:=.str (nm q.1)::.int q.2.1::es0) (PEd.cast ha (by rw[es1])) bA rfl λ_ _=>rfl) ei
 refine bE (bT (PEd.cast (mE (mE (aAO (ol:=none) (oh:=some ((q.2.1.toNat:Nat):Int)) (aC 2 rfl (pv 2)) trivial (bx (aC 1 rfl (pv 1))) ?_) (fW (ds:=[.int (nwQ p q ws)]) (aE (bW (ds:=[cS p,sqD q,bG ws]) GW hr rfl (aE (aC 0 rfl (pv 0)) (aE (aC 1 rfl (pv 1)) (aE (aC 2 rfl (pv 2)) aU))) ⟨p,q,ws,O,G,rfl,rfl⟩ trivial rfl) aU) (aF rfl)) ?_) (aAO (ol:=some (((q.2.1.toNat:Nat):Int)+1)) (oh:=none) (aC 2 rfl (pv 2)) (gO iL (bx (aC 1 rfl (pv 1))) bA) trivial ?_) ?_) ?_) trivial rfl)
 ·rw[HT.sIx_nat,aB];omega
 ·rw[tM ws li];simp only[aB,cT,bU,iB];omega
 ·have e:(((q.2.1.toNat:Nat):Int)+1)=((q.2.1.toNat+1:Nat):Int):=by push_cast;rfl
  rw[e,HT.sIx_nat,aB];omega
 ·rw[tM ws li,qU ws li];simp only[bB,aB,cT,gW,bU,iB];omega
 ·rw[tM ws li,qU ws li];unfold bG onQ;rw[tQ,if_pos li];simp
theorem aJu:∀k:Nat,k<10->([.str "and",.str "or",.str "xor",.str "add",.str "take",.str "copy",.str "put",.str "not",.str "up",.str "down"]:List D)[k]? =some (.str (nm k)):=by
 intro k hk
 match k,hk with
 |0,_=>rfl
 |1,_=>rfl
 |2,_=>rfl
 |3,_=>rfl
 |4,_=>rfl
 |5,_=>rfl
 |6,_=>rfl
 |7,_=>rfl
 |8,_=>rfl
 |9,_=>rfl
theorem aKg(F:Fun K "_law_drawn" "_law_drawn" aCM f fd)(hm:mg "_law_drawn"=some (.ref f))(GM:bL P w K mg base "_law_mixed" 1 2 CMx):bL P w K mg base "_law_drawn" 2 2 aLu:=by
 have nd:(["_law_size_here","_law_cell","_law_name","_law_i"]:List Str).Nodup:=by decide+kernel
 refine eJ (N:=["_law_size_here","_law_cell","_law_name","_law_i"]) (ps:=["_law_size_here","_law_cell"]) (k:=1) F ⟨rfl,rfl,rfl,nd,rfl,by decide+kernel,by decide+kernel⟩ hm (λ_ _ _ _ _ _ us hl=>match us,hl with | [_,_],_=>rfl) λcdv A outer s H E hr ds r hl c=> ?_
 obtain⟨p,c,hp,rfl,rfl⟩:=c;obtain⟨h1,h2,h3,h4,h5⟩:=uB p hp;have m0:=pw0 p.1.toNat;have e1:p.1=((p.1.toNat:Nat):Int):=by omega
 have p20:(0:Int)<p.2:=by omega
 have d0:=dP (mxS c 1) (show(10:Int)≠0 by decide);have d1:=cK (mxS c 1) (show(0:Int)<10 by decide);have mx:∀ {sd:List Slot}{j0:Nat}{p1 p2 p3 p4:Pos} (k:Nat),k<=400->sd[1]? =some (.val (.int c))->PEd (oS CX0 P w K mg base ["_law_size_here","_law_cell","_law_name","_law_i"] "_law_drawn" (bI aCM) f cdv A outer s H E).nox sd (.Call (.Name "_law_mixed" p1) [.Name "_law_cell" p2, .Constant (.int (k:Int)) j0 p4] [] p3) (.val (.int (mxS c k))):=λk hk hs=>bW (ds:=[.int c,.int (k:Int)]) GM hr rfl (aE (aC 1 hs (pv 1)) (aE bA aU)) ⟨c,k,rfl,hk,rfl⟩ trivial rfl
 refine aG (cB (d:=.str (nm (mxS c 1%10).toNat)) 2 nd rfl (Or.inl rfl) (oD (i:=mxS c 1%10) (ds:=[.str "and",.str "or",.str "xor",.str "add",.str "take",.str "copy",.str "put",.str "not",.str "up",.str "down"]) (PEd.bor (PEd.val (iA (ds:=[.str "and",.str "or",.str "xor",.str "add",.str "take",.str "copy",.str "put",.str "not",.str "up",.str "down"]) ?_ (aF rfl)))) (cJ eX (mx 1 (by decide) rfl) bA (by decide)) d0 (aJu _ (by omega)) λ_ _=>rfl) ?_)
 ·show PAd _ _ _ [.val (.str "and"),.val (.str "or"),.val (.str "xor"),.val (.str "add"),.val (.str "take"),.val (.str "copy"),.val (.str "put"),.val (.str "not"),.val (.str "up"),.val (.str "down")]
  repeat' (first|exact aU|refine aE dL ?_)
 refine aG (cB (d:=.int (mxS c 2%p.2)) 3 nd rfl (Or.inl rfl) (cJ eX (mx 2 (by decide) rfl) (dD (n:=1) (d:=.int p.2) (aC 0 rfl (pv 0)) bA rfl λ_ _=>rfl) p20) ?_);have k10:(mxS c 1%10).toNat<10:=by omega
 show PSd _ _ _ {nx:=λ_=>R.val (iY (mxS c 1%10).toNat (mxS c 2%p.2) (mxS c 4%p.2) (mxS c 3%((2^p.1.toNat:Nat):Int)))=.val .non,rt:=λr'=>r'=.val (iY (mxS c 1%10).toNat (mxS c 2%p.2) (mxS c 4%p.2) (mxS c 3%((2^p.1.toNat:Nat):Int)))};generalize (mxS c 1%10).toNat=k at *
 by_cases k6:k=6
 ·refine aG (iV (cX (aC 2 rfl (pv 2)) dL rfl rfl rfl (tO k k10)) (decide_eq_true k6) (bE (bT (fW (ds:=[.str (nm k),.int (mxS c 2%p.2),.int (mxS c 3%((2^p.1.toNat:Nat):Int))]) (aE (aC 2 rfl (pv 2)) (aE (aC 3 rfl (pv 3)) (aE (cJ eX (mx 3 (by decide) rfl) (uR (PEd.ic (dD (n:=0) (d:=.int p.1) (aC 0 rfl (pv 0)) bA rfl λ_ _=>rfl) e1) (by omega)) m0) aU))) (aF rfl)) trivial ?_)));show R.val _=R.val _;unfold iY;rw[if_neg (by omega),if_pos k6]
 refine aG (gH (cX (aC 2 rfl (pv 2)) dL rfl rfl rfl (tO k k10)) (decide_eq_false k6) (cQ ?_))
 by_cases k7:7<=k
 ·refine aG (iV (PWd.pt (qM (cX (aC 2 rfl (pv 2)) dL rfl rfl rfl (zQ k k10)) λ_=>qM (cX (aC 2 rfl (pv 2)) dL rfl rfl rfl (aFD k k10)) λ_=>aAm (cX (aC 2 rfl (pv 2)) dL rfl rfl rfl (zV k k10)))) (by rcases(by omega:k=7\/k=8\/k=9) with h|h|h<;>simp[h]) (bE (bT (fW (ds:=[.str (nm k),.int (mxS c 2%p.2)]) (aE (aC 2 rfl (pv 2)) (aE (aC 3 rfl (pv 3)) aU)) (aF rfl)) trivial ?_)))
  show R.val _=R.val _;unfold iY;rw[if_neg (by omega),if_neg k6]
 refine aG (gH (PWd.pt (qM (cX (aC 2 rfl (pv 2)) dL rfl rfl rfl (zQ k k10)) fun _=>qM (cX (aC 2 rfl (pv 2)) dL rfl rfl rfl (aFD k k10)) fun _=>aAm (cX (aC 2 rfl (pv 2)) dL rfl rfl rfl (zV k k10)))) (by
  have a1:¬ k=7:=by omega
  have a2:¬ k=8:=by omega
  have a3:¬ k=9:=by omega
  simp[a1,a2,a3]) (cQ ?_))
 refine bE (bT (fW (ds:=[.str (nm k),.int (mxS c 2%p.2),.int (mxS c 4%p.2)]) (aE (aC 2 rfl (pv 2)) (aE (aC 3 rfl (pv 3)) (aE (cJ eX (mx 4 (by decide) rfl) (dD (n:=1) (d:=.int p.2) (aC 0 rfl (pv 0)) bA rfl λ_ _=>rfl) p20) aU))) (aF rfl)) trivial ?_);show R.val _=R.val _;unfold iY;rw[if_pos (by omega)]
theorem aGA(F:Fun K "_law_moves" "_law_moves" aNG f fd)(hm:mg "_law_moves"=some (.ref f))(GF:bL P w K mg base "_law_fillings" 1 1 aAU)(GA:bL P w K mg base "_law_after" 2 3 aHG):bL P w K mg base "_law_moves" 3 2 (aPg P w K):=by
 have nd:(["_law_size_here","_law_kit_here","_law_moves_here","_law_step","_law_price_here","_law_made","_law_filling"]:List Str).Nodup:=by decide+kernel
 refine eJ (N:=["_law_size_here","_law_kit_here","_law_moves_here","_law_step","_law_price_here","_law_made","_law_filling"]) (ps:=["_law_size_here","_law_kit_here"]) (k:=2) F ⟨rfl,rfl,rfl,nd,rfl,by decide+kernel,by decide+kernel⟩ hm (λ_ _ _ _ _ _ us hl=>match us,hl with | [_,_],_=>rfl) λcdv A outer s H E hr ds r hl c=> ?_
 obtain⟨p,L,hp,S,rfl,rfl⟩:=c;have hr1:=hr.mono (show 1<=2 by decide);have hu:(A.deeper (Aj "_law_moves" (bI aNG) s.heap.objs.size f cdv)).units+2<AQ:=by have:=hr.un;omega
 have f9:(bV p).length<=64:=lI hp;have l8:=S.le;refine aG (iG (ds:=[]) 2 nd rfl (Or.inl rfl) (iA (ds:=[]) aU (bS _)) λl2=> ?_);refine aG (hX (ds:=L.map skD) (λt sd=>sd=[.val (cS p),.val (.lst (L.map skD)),.own l2 ((L.take t).map (mgD P w K p)),.un,.un,.un,.un]) (gU (aC 1 rfl (pv 1))) ⟨_,Le.refl _,rfl⟩ (λt d sdt hd ht=> ?_) λsdn hn=> ?_)
 ·obtain⟨sk,hsk,rfl,et⟩:=lO hd;have O:=(S.st sk (bD hsk)).1;have tk:((L.take t).map (mgD P w K p)).length<=1000:=by rw[aB,cT];omega
  rw[et,aP];subst ht;generalize (L.take t).map (mgD P w K p)=vs at tk;refine⟨[.val (cS p),.val (.lst (L.map skD)),.own l2 vs,.val (sqD sk.1),.val (.int sk.2),.un,.un],kQ (ds:=[sqD sk.1,.int sk.2]) (js:=[3,4]) rfl (eU (cP (i:=3) nd rfl (Or.inl rfl)) (eU (cP (i:=4) nd rfl (Or.inl rfl)) kO)) rfl rfl, ?_⟩;refine aG (aBl (hkT P w) 5 nd rfl (Or.inl rfl) λl5=> ?_);refine aG (hX (ds:=(bV p).map bG) (λm sd=>sd=[.val (cS p),.val (.lst (L.map skD)),.own l2 vs,.val (sqD sk.1),.val (.int sk.2),oG (hkT P w) K l5 (((bV p).take m).map inK) (((bV p).take m).map λws=>bG (onQ p sk.1 ws)),.un]) (gU (PEd.val (bW (ds:=[cS p]) GF hr1 rfl (aE (aC 0 rfl (pv 0)) aU) ⟨p,hp,rfl,rfl⟩ trivial rfl))) ⟨_,Le.refl _,rfl⟩ (λm d sdm hd hm=> ?_) λsdn hn=> ?_)
  ·obtain⟨ws,hws,rfl,em⟩:=lO hd;have G:=kP hp (bD hws)
   have nk:inK ws∉((bV p).take m).map inK:=λz=>by obtain⟨y,y1,y2⟩:=aO.mp z;rw[aDu y2] at y1;exact aIR (aEL hp) hws y1
   have tk2:(((bV p).take m).map λws=>bG (onQ p sk.1 ws)).length<=1000:=by rw[aB,cT];omega
   rw[em,aP,aP];subst hm;generalize ((bV p).take m).map inK=ks at nk;generalize ((bV p).take m).map (λws=>bG (onQ p sk.1 ws))=us at tk2;refine⟨[.val (cS p),.val (.lst (L.map skD)),.own l2 vs,.val (sqD sk.1),.val (.int sk.2),oG (hkT P w) K l5 ks us,.val (bG ws)],eV 6 (cP (i:=6) nd rfl (Or.inl rfl)), ?_⟩;exact bE (aBF (hk:=hkT P w) (k:=inK ws) (d:=bG (onQ p sk.1 ws)) 5 hu rfl (pv 5) (bW (ds:=[cS p,sqD sk.1,bG ws]) GA hr rfl (aE (aC 0 rfl (pv 0)) (aE (aC 3 rfl (pv 3)) (aE (aC 6 rfl (pv 6)) aU))) ⟨p,sk.1,ws,O,G,rfl,rfl⟩ trivial rfl) (PEd.cast (aC 6 rfl (pv 6)) (by rw[show(hkT P w).dat (inK ws)=tD (inK ws) from rfl,aLf])) nk tk2 ⟨[.val (cS p),.val (.lst (L.map skD)),.own l2 vs,.val (sqD sk.1),.val (.int sk.2),oG (hkT P w) K l5 (ks++[inK ws]) (us++[bG (onQ p sk.1 ws)]),.un],⟨.inr rfl,.inr rfl,.inr rfl,.inr rfl,.inr rfl,.inr rfl,.inl rfl,trivial⟩,rfl⟩)
  ·subst hn;rw[aB,fM];refine aFY 5 rfl ?_;refine bE (nX (d:=mgD P w K p sk) 2 rfl (pv 2) (aC 5 rfl (pv 5)) tk ?_);exact⟨[.val (cS p),.val (.lst (L.map skD)),.own l2 (vs++[mgD P w K p sk]),.un,.un,.un,.un],⟨.inr rfl,.inr rfl,.inr rfl,.inl rfl,.inl rfl,.inl rfl,.inl rfl,trivial⟩,rfl⟩
 ·subst hn;rw[aB,fM];exact bE (nG 2 rfl (pv 2) rfl)
theorem aEs(F:Fun K "_law_size" "_law_size" aID f fd)(hm:mg "_law_size"=some (.ref f))(GM:bL P w K mg base "_law_mixed" 1 2 CMx):bL P w K mg base "_law_size" 2 1 aLr:=by
 have nd:(["_law_cell"]:List Str).Nodup:=by decide+kernel
 refine eJ (N:=["_law_cell"]) (ps:=["_law_cell"]) (k:=1) F ⟨rfl,rfl,rfl,nd,rfl,by decide+kernel,by decide+kernel⟩ hm (λ_ _ _ _ _ _ us hl=>match us,hl with | [_],_=>rfl) λcdv A outer s H E hr ds r hl c=> ?_
 obtain⟨c,rfl,rfl⟩:=c;have e0:yW c=if mxS c 31%8=1 then sz6L.getD (mxS c 32%6).toNat (1,1) else sz8L.getD (mxS c 30%8).toNat (1,1):=rfl
 have mx:∀ {sd:List Slot}{p1 p2 p3 p4:Pos}{j1:Nat} (k:Nat),k<=400->sd[0]? =some (.val (.int c))->PEd (oS CX0 P w K mg base ["_law_cell"] "_law_size" (bI aID) f cdv A outer s H E).nox sd (.Call (.Name "_law_mixed" p1) [.Name "_law_cell" p2, .Constant (.int (k:Int)) j1 p3] [] p4) (.val (.int (mxS c k))):=λk hk hs=>bW (ds:=[.int c,.int (k:Int)]) GM hr rfl (aE (aC 0 hs (pv 0)) (aE bA aU)) ⟨c,k,rfl,hk,rfl⟩ trivial rfl
 refine aG (gF (k:=decide (mxS c 31%8=1)) (rD (cJ eX (mx 31 (by decide) rfl) bA (by decide)) bA) (λh=> ?_) λh=>cQ ?_)
 ·have h':=of_decide_eq_true h;rw[if_pos h'] at e0;rw[e0];obtain⟨h1,h0⟩:=gE (mxS c 32) (n:=6) (by decide)
  have g:(sz6L.map cS)[(mxS c 32%6).toNat]? =some (cS (sz6L.getD (mxS c 32%6).toNat (1,1))):=by have hl:(mxS c 32%6).toNat<sz6L.length:=h1;rw[bF];simp[bR,hl]
  refine bE (bT (oD (i:=mxS c 32%6) (ds:=sz6L.map cS) (PEd.bor (PEd.val (iA (ds:=sz6L.map cS) ?_ (aF rfl)))) (cJ eX (mx 32 (by decide) rfl) bA (by decide)) h0 g λ_ _=>rfl) trivial rfl);show PAd _ _ _ ([.tup [.int 2,.int 3],.tup [.int 3,.int 2],.tup [.int 1,.int 5],.tup [.int 5,.int 1],.tup [.int 1,.int 6],.tup [.int 6,.int 1]].map R.val)
  repeat' (first|exact aU|refine aE (fW (ds:=[.int _,.int _]) (aE bA (aE bA aU)) (aF rfl)) ?_)
 ·have h':=of_decide_eq_false h;rw[if_neg h'] at e0;rw[e0];obtain⟨h1,h0⟩:=gE (mxS c 30) (n:=8) (by decide)
  have g:(sz8L.map cS)[(mxS c 30%8).toNat]? =some (cS (sz8L.getD (mxS c 30%8).toNat (1,1))):=by have hl:(mxS c 30%8).toNat<sz8L.length:=h1;rw[bF];simp[bR,hl]
  refine bE (bT (oD (i:=mxS c 30%8) (ds:=sz8L.map cS) (PEd.bor (PEd.val (iA (ds:=sz8L.map cS) ?_ (aF rfl)))) (cJ eX (mx 30 (by decide) rfl) bA (by decide)) h0 g λ_ _=>rfl) trivial rfl);show PAd _ _ _ ([.tup [.int 1,.int 1],.tup [.int 1,.int 2],.tup [.int 2,.int 1],.tup [.int 2,.int 2],.tup [.int 1,.int 3],.tup [.int 3,.int 1],.tup [.int 1,.int 4],.tup [.int 4,.int 1]].map R.val)
  repeat' (first|exact aU|refine aE (fW (ds:=[.int _,.int _]) (aE bA (aE bA aU)) (aF rfl)) ?_)
noncomputable def tV:D->D
 |.tup [a,_]=>a
 |d=>d
noncomputable def aOe:D->List Slot
 |.tup [a,b]=>[.val a,.val b]
 |_=>[.un,.un]
theorem aGp(F:Fun K "_law_kit" "_law_kit" aIp f fd)(zrange:mg "range"=none)(zint:mg "int"=none)(hm:mg "_law_kit"=some (.ref f))(GC:bL P w K mg base "_law_cell_at" 1 2 aFy)(GM:bL P w K mg base "_law_mixed" 1 2 CMx)(GD:bL P w K mg base "_law_drawn" 2 2 aLu):bL P w K mg base "_law_kit" 3 3 aHe:=by
 have nd:(["_law_script","_law_start","_law_size_here","_law_head","_law_factor","_law_many","_law_kit_here","_law_k","_law_cell","_law_step"]:List Str).Nodup:=by decide+kernel
 have nd3:(["_law_one","_law_price_here"]:List Str).Nodup:=by decide+kernel
 refine eJ (N:=["_law_script","_law_start","_law_size_here","_law_head","_law_factor","_law_many","_law_kit_here","_law_k","_law_cell","_law_step"]) (ps:=["_law_script","_law_start","_law_size_here"]) (k:=2) F ⟨rfl,rfl,rfl,nd,rfl,by decide+kernel,by decide+kernel⟩ hm (λ_ _ _ _ _ _ us hl=>match us,hl with | [_,_,_],_=>rfl) λcdv A outer s H E hr ds r hl c=> ?_
 obtain⟨p,ns,st,hp,hst,rfl,rfl⟩:=c;have hr1:=hr.mono (show 1<=2 by decide);have hu:(A.deeper (Aj "_law_kit" (bI aIp) s.heap.objs.size f cdv)).units+4<AQ:=by have:=hr.un;omega
 have mx:∀ {sd:List Slot}{x:Str}{p1 p2 p3 p4:Pos}{j1:Nat} (i:Nat) (c:Int) (k:Nat),k<=400->sd[i]? =some (.val (.int c))->PE (oS CX0 P w K mg base ["_law_script","_law_start","_law_size_here","_law_head","_law_factor","_law_many","_law_kit_here","_law_k","_law_cell","_law_step"] "_law_kit" (bI aIp) f cdv A outer s H E).nox (.Name x p2) (lH i)->PEd (oS CX0 P w K mg base ["_law_script","_law_start","_law_size_here","_law_head","_law_factor","_law_many","_law_kit_here","_law_k","_law_cell","_law_step"] "_law_kit" (bI aIp) f cdv A outer s H E).nox sd (.Call (.Name "_law_mixed" p1) [.Name x p2, .Constant (.int (k:Int)) j1 p3] [] p4) (.val (.int (mxS c k))):=λi c k hk hs hx=>bW (ds:=[.int c,.int (k:Int)]) GM hr1 rfl (aE (aC i hs hx) (aE bA aU)) ⟨c,k,rfl,hk,rfl⟩ trivial rfl
 refine aG (cB (d:=.int (ns.getD st 0)) 3 nd rfl (Or.inl rfl) (bW (ds:=[.scr ns,.int (st:Int)]) GC hr1 rfl (aE (aC 0 rfl (pv 0)) (aE (aC 1 rfl (pv 1)) aU)) ⟨ns,st,rfl,by omega,rfl⟩ trivial rfl) ?_);have eK:wD p ns st=gK p ns st (nE (ns.getD st 0)) (nZ (ns.getD st 0)):=rfl;rw[eK];generalize ns.getD st 0=c;have hf:=wV c;obtain⟨m1,m2⟩:=yI c;have eF:(([1,1,3]:List Int).map D.int)[(mxS c 10%3).toNat]? =some (.int (nE c)):=vI (show(mxS c 10%3).toNat<([1,1,3]:List Int).length from(gE (mxS c 10) (n:=3) (by decide)).1);refine aG (cB (d:=.int (nE c)) 4 nd rfl (Or.inl rfl) (oD (i:=mxS c 10%3) (ds:=([1,1,3]:List Int).map D.int) (PEd.bor (PEd.val (iA (ds:=[.int 1,.int 1,.int 3]) (aE bA (aE bA (aE bA aU))) (aF rfl)))) (cJ eX (mx 3 c 10 (by decide) rfl (pv 3)) bA (by decide)) (gE (mxS c 10) (n:=3) (by decide)).2 eF λ_ _=>rfl) ?_);refine aG (cB (d:=.int ((nZ c:Nat):Int)) 5 nd rfl (Or.inl rfl) (PEd.ic (gO iL (gO iL bA (cJ eX (mx 3 c 11 (by decide) rfl (pv 3)) bA (by decide))) (aKm rfl zint (aHl (cJ eX (mx 3 c 12 (by decide) rfl (pv 3)) bA (by decide)) bA))) ?_) ?_)
 ·have h0:=(gE (mxS c 11) (n:=4) (by decide)).2;have h0:0<=mxS c 11%4:=h0;unfold nZ
  by_cases h:mxS c 12%8=1
  ·rw[if_pos h,if_pos (decide_eq_true h)];omega
  ·rw[if_neg h,if_neg (by simpa using h)];omega
 generalize nE c=fc at hf;generalize nZ c=mn at m1 m2;refine aG (iG (ds:=([]:List SK).map skD) 6 nd rfl (Or.inl rfl) (iA (ds:=[]) aU (bS _)) λl3=> ?_);refine aG (hX (ds:=jJ 0 mn) (λt sd=>sd=[.val (.scr ns),.val (.int (st:Int)),.val (cS p),.un,.val (.int fc),.un,.own l3 ((gK p ns st fc t).map skD),.un,.un,.un]) (kJ (n:=mn) rfl zrange (aC 5 rfl (pv 5)) (by omega)) ⟨[.val (.scr ns),.val (.int (st:Int)),.val (cS p),.un,.val (.int fc),.un,.own l3 ((gK p ns st fc 0).map skD),.un,.un,.un],⟨.inr rfl,.inr rfl,.inr rfl,.inl rfl,.inr rfl,.inl rfl,.inr rfl,.inr rfl,.inr rfl,.inr rfl,trivial⟩,rfl⟩ (λt d sdt hd ht=> ?_) λsdn hn=> ?_)
 ·subst ht;obtain⟨ht,rfl⟩:=kK hd;rw[aPs];refine⟨[.val (.scr ns),.val (.int (st:Int)),.val (cS p),.un,.val (.int fc),.un,.own l3 ((gK p ns st fc t).map skD),.val (.int (t:Int)),.un,.un],eV 7 (cP (i:=7) nd rfl (Or.inl rfl)), ?_⟩;have ll:(gK p ns st fc t).length<=5:=cO (sZ hp ns st hf t).1 (by omega);have eN:gK p ns st fc (t+1)=if xA (gK p ns st fc t) (drQ p (ns.getD (st+1+t) 0)) then gK p ns st fc t else gK p ns st fc t++[(drQ p (ns.getD (st+1+t) 0),fc*zS (ns.getD (st+1+t) 0))]:=rfl
  rw[eN];refine aG (cB (d:=.int (ns.getD (st+1+t) 0)) 8 nd rfl (Or.inl rfl) (bW (ds:=[.scr ns,.int ((st+1+t:Nat):Int)]) GC hr1 rfl (aE (aC 0 rfl (pv 0)) (aE (PEd.ic (gO iL (gO iL (aC 1 rfl (pv 1)) bA) (aC 7 rfl (pv 7))) (by omega)) aU)) ⟨ns,st+1+t,rfl,by omega,rfl⟩ trivial rfl) ?_);generalize ns.getD (st+1+t) 0=x;generalize gK p ns st fc t=L at *;refine aG (cB (d:=sqD (drQ p x)) 9 nd rfl (Or.inl rfl) (bW (ds:=[cS p,.int x]) GD hr rfl (aE (aC 2 rfl (pv 2)) (aE (aC 8 rfl (pv 8)) aU)) ⟨p,x,hp,rfl,rfl⟩ trivial rfl) ?_);generalize drQ p x=q
  have plc:plL ((L.map skD).map tV)=true/\jK ((L.map skD).map tV)<=1:=by rw[aV];exact⟨aDR (λs:SK=>tV (skD s)) (λs=>aLC s.1) _,aBj (λs:SK=>tV (skD s)) 1 (λs=>aFc (aMC s.1)) _⟩
  have ef:((L.map skD).filter λ_=>true).map tV=(L.map skD).map tV:=by rw[eH.mpr (λ_ _=>rfl)]
  have es:((L.map skD).map tV).any (λz=>deq z (sqD q))=xA L q:=by unfold xA;rw[aV];rfl
  have pb:=aCV x;have eP:(([1,1,2,3]:List Int).map D.int)[(mxS x 5%4).toNat]? =some (.int (zS x)):=vI (show(mxS x 5%4).toNat<([1,1,2,3]:List Int).length from(gE (mxS x 5) (n:=4) (by decide)).1);refine bE (gF (k:= !xA L q) (PTd.lend 6 rfl (aIF rfl) (PTd.cast (wU (aC 9 rfl (pv 9)) (PEd.val (PEd.cast (jE (ds:=L.map skD) (N:=["_law_one","_law_price_here"]) (M:=["_law_script","_law_start","_law_size_here","_law_head","_law_factor","_law_many","_law_kit_here","_law_k","_law_cell","_law_step"]) (cap:=[none,none]) (sc:=bI aIp) (Tb:=aOe) (λ_=>true) tV (gU (aC 6 rfl (pv 6))) (by rw[aB];omega) rfl (by decide+kernel) rfl (by decide+kernel) rfl (λcl C fp s H d hd=> ?_) (λd hd=> ?_) (λcl C fp s H d hd=>.inl ⟨rfl,rfl⟩) λcl C fp s H d hd _=> ?_) (by rw[ef]))) (aLC q) plc.1 (by have:=plc.2;show(A.deeper (Aj "_law_kit" (bI aIp) s.heap.objs.size f cdv)).units+1+_<AQ;omega)) (by rw[es]))) (λh=> ?_) λh=> ?_)
  ·obtain⟨s,_,rfl⟩:=aO.mp hd;exact kQ (js:=[0,1]) rfl (eU (cP (i:=0) nd3 rfl (Or.inl rfl)) (eU (cP (i:=1) nd3 rfl (Or.inl rfl)) kO)) rfl rfl
  ·obtain⟨s,_,rfl⟩:=aO.mp hd;exact⟨.inl rfl,.inl rfl,trivial⟩
  ·obtain⟨s,_,rfl⟩:=aO.mp hd;exact(aC 0 rfl (pv 0))
  ·have h':xA L q=false:=by simpa using h
   rw[h'];refine bE (nX (d:=skD (q,fc*zS x)) 6 rfl (pv 6) (fW (ds:=[sqD q,.int (fc*zS x)]) (aE (aC 9 rfl (pv 9)) (aE (cJ iW (aC 4 rfl (pv 4)) (oD (i:=mxS x 5%4) (ds:=([1,1,2,3]:List Int).map D.int) (PEd.bor (PEd.val (iA (ds:=[.int 1,.int 1,.int 2,.int 3]) (aE bA (aE bA (aE bA (aE bA aU)))) (aF rfl)))) (cJ eX (mx 8 x 5 (by decide) rfl (pv 8)) bA (by decide)) (gE (mxS x 5) (n:=4) (by decide)).2 eP λ_ _=>rfl) (iP (bQ (by omega:_<=3) (by decide)) (bQ (by omega:_<=3) (by decide)))) aU)) (aF rfl)) (by rw[aB];omega) ⟨[.val (.scr ns),.val (.int (st:Int)),.val (cS p),.un,.val (.int fc),.un,.own l3 ((L++[(q,fc*zS x)]).map skD),.un,.un,.un],⟨.inr rfl,.inr rfl,.inr rfl,.inr rfl,.inr rfl,.inr rfl,.inr ?_,.inl rfl,.inl rfl,.inl rfl,trivial⟩,rfl⟩);rw[aP];rfl
  ·have h':xA L q=true:=by simpa using h
   rw[h'];exact cQ ⟨[.val (.scr ns),.val (.int (st:Int)),.val (cS p),.un,.val (.int fc),.un,.own l3 (L.map skD),.un,.un,.un],⟨.inr rfl,.inr rfl,.inr rfl,.inr rfl,.inr rfl,.inr rfl,.inr rfl,.inl rfl,.inl rfl,.inl rfl,trivial⟩,rfl⟩
 ·subst hn;rw[iJ];refine mJ 6 rfl ?_;exact bE (bT (fW (ds:=[.lst ((gK p ns st fc mn).map skD),.int fc]) (aE (aC 6 rfl (pv 6)) (aE (aC 4 rfl (pv 4)) aU)) (aF rfl)) trivial rfl)
theorem aGq(F:Fun K "_law_bound" "_law_bound" aOW f fd)(zlen:mg "len"=none)(hm:mg "_law_bound"=some (.ref f)):bL P w K mg base "_law_bound" 1 3 aHd:=by
 have nd:(["_law_cell","_law_kit_here","_law_factor"]:List Str).Nodup:=by decide+kernel
 refine eJ (N:=["_law_cell","_law_kit_here","_law_factor"]) (ps:=["_law_cell","_law_kit_here","_law_factor"]) (k:=0) F ⟨rfl,rfl,rfl,nd,rfl,by decide+kernel,by decide+kernel⟩ hm (λ_ _ _ _ _ _ us hl=>match us,hl with | [_,_,_],_=>rfl) λcdv A outer s H E hr ds r hl c=> ?_
 obtain⟨c,L,fc,l1,l2,hf,rfl,rfl⟩:=c;have g0:∀n:Nat,n<5->([12,5,4,3,2]:List Int).getD n 0=((([12,5,4,3,2]:List Nat).getD n 0:Nat):Int):=by decide+kernel
 have g:∀n:Nat,n<5->(([12,5,4,3,2]:List Int).map D.int)[n]? =some (.int ((([12,5,4,3,2]:List Nat).getD n 0:Nat):Int)):=λn hn=>by rw[<-g0 n hn];exact vI hn
 have g2:∀n:Nat,n<5->([12,5,4,3,2]:List Nat).getD n 0<=12:=by decide+kernel
 have gm:oI L.length<=12:=g2 _ (by omega);have h0:=dP c (show(oI L.length:Int)+1≠0 by omega);have h1:=cK c (show(0:Int)<(oI L.length:Int)+1 by omega);refine bE (bT (PEd.ic (gO iL (cJ iW (aC 2 rfl (pv 2)) (cJ eX (aC 0 rfl (pv 0)) (gO iL (oD (i:=(L.length:Int)-1) (d:=.int ((oI L.length:Nat):Int)) (ds:=([12,5,4,3,2]:List Int).map D.int) (PEd.bor (PEd.val (iA (ds:=[.int 12,.int 5,.int 4,.int 3,.int 2]) (aE bA (aE bA (aE bA (aE bA (aE bA aU))))) (aF rfl)))) (gO qG (PEd.ic (uT rfl zlen (PEd.bor (aC 1 rfl (pv 1)))) (by rw[aB])) bA) (by omega) ?_ λ_ _=>rfl) bA) (by omega)) (iP (bQ (by omega:_<=3) (by decide)) (bQ (by omega:_<=13) (by decide)))) (cJ eX (cJ lP (aC 0 rfl (pv 0)) bA ⟨by decide,by decide⟩) (aC 2 rfl (pv 2)) (by omega))) rfl) trivial rfl);have e:((L.length:Int)-1).toNat=L.length-1:=by omega
 rw[e];exact g _ (by omega)
theorem aFK(F:Fun K "_law_price" "_law_price" aNH f fd)(zsum:mg "sum"=none)(hm:mg "_law_price"=some (.ref f)):bL P w K mg base "_law_price" 1 2 aLz:=by
 have nd:(["_law_kit_here","_law_row_here"]:List Str).Nodup:=by decide+kernel
 refine eJ (N:=["_law_kit_here","_law_row_here"]) (ps:=["_law_kit_here","_law_row_here"]) (k:=0) F ⟨rfl,rfl,rfl,nd,rfl,by decide+kernel,by decide+kernel⟩ hm (λ_ _ _ _ _ _ us hl=>match us,hl with | [_,_],_=>rfl) λcdv A outer s H E hr ds r hl c=> ?_
 obtain⟨L,row,hrow,hl2,rfl,rfl⟩:=c;have nd2:(["_law_number","_law_kit_here"]:List Str).Nodup:=by decide+kernel
 have ec:((bY row).filter λ_=>true).map (λd=>match d with | .int t=>D.int (L.getD t.toNat AR).2|_=>.non)=(aKA L row).map D.int:=by
  rw[eH.mpr (λ_ _=>rfl)];unfold bY aKA;rw[aV,aV];refine cM λt _=> ?_
  simp
 refine bE (bT (PEd.ic (aJd (ns:=aKA L row) rfl zsum (PEd.bor (PEd.val (PEd.cast (jE (ds:=bY row) (N:=["_law_number","_law_kit_here"]) (M:=["_law_kit_here","_law_row_here"]) (cap:=[none,some 0]) (sc:=bI aNH) (Tb:=λd=>[.val d,.val (.lst (L.map skD))]) (λ_=>true) (λd=>match d with | .int t=>D.int (L.getD t.toNat AR).2|_=>.non) (pO (aC 1 rfl (pv 1))) (by rw[show(bY row).length=row.length from aB _];omega) rfl (by decide+kernel) rfl (by decide+kernel) rfl (λcl C fp s H d _=>eV 0 (cP (i:=0) nd2 rfl (Or.inl rfl))) (λd _=>⟨.inl rfl,.inr rfl,trivial⟩) (λcl C fp s H d hd=>.inl ⟨rfl,rfl⟩) λcl C fp s H d hd _=> ?_) (by rw[ec]))))) (aMe L row)) trivial rfl);obtain⟨t,ht,rfl⟩:=aO.mp hd;have hn:=hrow t ht;exact dD (n:=1) (ds:=[sqD (L.getD t AR).1,.int (L.getD t AR).2]) (nY (n:=t) (PEd.bor (aC 1 rfl (pv 1))) (aC 0 rfl (pv 0)) (aMr hn) λ_ _=>rfl) bA rfl λ_ _=>rfl
theorem aGd(F:Fun K "_law_table" "_law_table" aNo f fd)(ztuple:mg "tuple"=none)(hm:mg "_law_table"=some (.ref f))(GF:bL P w K mg base "_law_fillings" 1 1 aAU):bL P w K mg base "_law_table" 2 3 (aHh P w K):=by
 have nd:(["_law_size_here","_law_moves_here","_law_row_here","_law_table_here","_law_number"]:List Str).Nodup:=by decide+kernel
 have nd2:(["_law_filling","_law_moves_here","_law_number"]:List Str).Nodup:=by decide+kernel
 refine eJ (N:=["_law_size_here","_law_moves_here","_law_row_here","_law_table_here","_law_number"]) (ps:=["_law_size_here","_law_moves_here","_law_row_here"]) (k:=1) F ⟨rfl,rfl,rfl,nd,rfl,by decide+kernel,by decide+kernel⟩ hm (λ_ _ _ _ _ _ us hl=>match us,hl with | [_,_,_],_=>rfl) λcdv A outer s H E hr ds r hl c=> ?_
 obtain⟨p,L,row,hp,S,ho,rl,rfl,rfl⟩:=c;have hu:(A.deeper (Aj "_law_table" (bI aNo) s.heap.objs.size f cdv)).units+2<AQ:=by have:=hr.un;omega
 refine aG (cB (d:=.tup ((bV p).map bG)) 3 nd rfl (Or.inl rfl) (nC rfl ztuple (PEd.bor (PEd.val (bW (ds:=[cS p]) GF hr rfl (aE (aC 0 rfl (pv 0)) aU) ⟨p,hp,rfl,rfl⟩ trivial rfl)))) ?_);refine aG (hX (ds:=bY row) (λt sd=>sd=[.val (cS p),.val (.lst (L.map (mgD P w K p))),.val (.tup (bY row)),.val (.tup ((S45.tabQ (oA p L) (bV p) (row.take t)).map bG)),.un]) (pO (aC 2 rfl (pv 2))) ⟨_,Le.refl _,rfl⟩ (λt d sdt hd ht=> ?_) λsdn hn=> ?_)
 ·subst ht;obtain⟨k,hk,rfl,et⟩:=lO hd;have kl:k<L.length:=ho k (bD hk);have hot:gL L (row.take t):=λi hi=>ho i (qB hi)
  have tl:=aDX hp S hot;have ti:=vH hp S hot;rw[et,S45.tab_snoc];have eB:∀T,oA p L k T=T.map (onQ p (L.getD k AR).1):=λ_=>rfl
  rw[eB]
  have mv1:(L.map (mgD P w K p))[k]? =some (mgD P w K p (L.getD k AR)):=by rw[bF];simp[bR,kl]
  generalize S45.tabQ (oA p L) (bV p) (row.take t)=tab at tl ti;generalize L.getD k AR=sk at mv1;refine⟨[.val (cS p),.val (.lst (L.map (mgD P w K p))),.val (.tup (bY row)),.val (.tup (tab.map bG)),.val (.int (k:Int))],eV 4 (cP (i:=4) nd rfl (Or.inr rfl)), ?_⟩
  have ec:((tab.map bG).filter λ_=>true).map (λd=>bG (onQ p sk.1 (mR d)))=(tab.map (onQ p sk.1)).map bG:=by
   rw[eH.mpr (λ_ _=>rfl),aV,aV];refine cM λws _=> ?_
   show bG (onQ p sk.1 (mR (bG ws)))=_;rw[kM];rfl
  refine bE (cB (d:=.tup ((tab.map (onQ p sk.1)).map bG)) 3 nd rfl (Or.inl rfl) (nC rfl ztuple (PEd.bor (PEd.val (PEd.cast (jE (ds:=tab.map bG) (N:=["_law_filling","_law_moves_here","_law_number"]) (M:=["_law_size_here","_law_moves_here","_law_row_here","_law_table_here","_law_number"]) (cap:=[none,some 1,some 4]) (sc:=bI aNo) (Tb:=λd=>[.val d,.val (.lst (L.map (mgD P w K p))),.val (.int (k:Int))]) (λ_=>true) (λd=>bG (onQ p sk.1 (mR d))) (pO (aC 3 rfl (pv 3))) (by rw[aB];omega) rfl (by decide+kernel) rfl (by decide+kernel) rfl (λcl C fp s H d hd=>eV 0 (cP (i:=0) nd2 rfl (Or.inl rfl))) (λd hd=>⟨.inl rfl,.inr rfl,.inr rfl,trivial⟩) (λcl C fp s H d hd=>.inl ⟨rfl,rfl⟩) λcl C2 fp s H d hd _=> ?_) (by rw[ec]))))) ⟨[.val (cS p),.val (.lst (L.map (mgD P w K p))),.val (.tup (bY row)),.val (.tup ((tab.map (onQ p sk.1)).map bG)),.un],⟨.inr rfl,.inr rfl,.inr rfl,.inr rfl,.inl rfl,trivial⟩,rfl⟩);obtain⟨ws,hw,rfl⟩:=uX hd;obtain⟨i,hi⟩:=iC (ti ws hw);rw[kM];exact aKb (hk:=hkT P w) (k:=inK ws) (n:=i) (d:=bG (onQ p sk.1 ws)) hu (aIZ (nY (n:=k) (PEd.bor (aC 1 rfl (pv 1))) (aC 2 rfl (pv 2)) mv1 λ_ _=>rfl)) (PEd.cast (aC 0 rfl (pv 0)) (by rw[show(hkT P w).dat (inK ws)=tD (inK ws) from rfl,aLf])) (by rw[bF,hi];rfl) (by rw[bF,hi];rfl) λ_ _=>rfl
 ·subst hn;rw[rC,fM];exact bE (bT (aC 3 rfl (pv 3)) trivial rfl)
theorem aGa(F:Fun K "_law_row" "_law_row" aNt f fd)(zlen:mg "len"=none)(hm:mg "_law_row"=some (.ref f))(GP:bL P w K mg base "_law_price" 1 2 aLz):bL P w K mg base "_law_row" 2 4 aHL:=by
 have nd:(["_law_script","_law_start","_law_kit_here","_law_bound_here","_law_row_here","_law_cell","_law_number"]:List Str).Nodup:=by decide+kernel
 refine eJ (N:=["_law_script","_law_start","_law_kit_here","_law_bound_here","_law_row_here","_law_cell","_law_number"]) (ps:=["_law_script","_law_start","_law_kit_here","_law_bound_here"]) (k:=1) F ⟨rfl,rfl,rfl,nd,rfl,by decide+kernel,by decide+kernel⟩ hm (λ_ _ _ _ _ _ us hl=>match us,hl with | [_,_,_,_],_=>rfl) λcdv A outer s H E hr ds r hl c=> ?_
 obtain⟨ns,st,p,L,b,S,hb,hst,n63,hbit,rfl,rfl⟩:=c;have hL:=S.pos;have l8:=S.le;have e0:wH L b ns st=rP L b [] (ns.drop st):=rfl;have cbit:∀c∈ns.drop st,aIq c:=λc hc=>hbit c (lF hc)
 have cl:(ns.drop st).length<=63:=by rw[gW];omega
 have ec:DL.cutD (ns.map D.int) (some (st:Int)) none=(ns.drop st).map D.int:=by rw[aEY,lC]
 rw[e0];generalize ns.drop st=cs at cbit cl ec;refine aG (cB (d:=.tup (bY [])) 4 nd rfl (Or.inl rfl) (fW (ds:=[]) aU (aF rfl)) ?_);refine aG (hX (ds:=cs.map D.int) (λt sd=>∃q,gL L q/\q.length<=t/\rP L b q (cs.drop t)=rP L b [] cs/\sd=[.val (.scr ns),.val (.int (st:Int)),.val (.lst (L.map skD)),.val (.int b),.val (.tup (bY q)),.un,.un]) (gU (PEd.val (PEd.cast (aMb (ol:=some (st:Int)) (oh:=none) (aC 0 rfl (pv 0)) (aC 1 rfl (pv 1)) trivial) (by rw[ec])))) ⟨_,Le.refl _,[],λi hi=>(nomatch hi),aM _,rfl,rfl⟩ (λt d sdt hd ht=> ?_) λsdn hn=> ?_)
 ·obtain⟨q,q1,q2,q3,rfl⟩:=ht;obtain⟨c,hc,rfl,_⟩:=lO hd;obtain⟨tl,etc⟩:=aN.mp hc;have cb:=cbit c (bD hc);have ed:cs.drop t=c::cs.drop (t+1):=by rw[dJ tl,etc]
  rw[ed] at q3;have q3:(if b<S45.prQ (prK L) (q++[pU L c]) then q else rP L b (q++[pU L c]) (cs.drop (t+1)))=rP L b [] cs:=q3;have hn:=aDV hL c
  have en:((pU L c:Nat):Int)=c*16807%2147483647%(L.length:Int):=by unfold pU;have:=(gE (c*16807%2147483647) hL).2;omega
  generalize pU L c=m at q3 hn en;refine⟨[.val (.scr ns),.val (.int (st:Int)),.val (.lst (L.map skD)),.val (.int b),.val (.tup (bY q)),.val (.int c),.un],eV 5 (cP (i:=5) nd rfl (Or.inl rfl)), ?_⟩;refine aG (cB (d:=.int (m:Int)) 6 nd rfl (Or.inl rfl) (PEd.ic (cJ eX (cJ eX (cJ iW (aC 5 rfl (pv 5)) bA (aIX cb (by decide+kernel))) bA (by decide)) (PEd.ic (uT rfl zlen (PEd.bor (aC 2 rfl (pv 2)))) (by rw[aB])) (by omega)) en.symm) ?_);have es:bY q++[.int (m:Int)]=bY (q++[m]):=by unfold bY;rw[aP];rfl
  have ho1:gL L (q++[m]):=λi hi=>by
   rcases bC.mp hi with hi|hi
   ·exact q1 i hi
   ·rw[aJ.mp hi];exact hn
  have ql:(q++[m]).length<=t+1:=by rw[bB];show _+1<=_;omega
  have longer:∀ {sd:List Slot}{p1 p2 p3 p4:Pos}{x1:Nat},sd[4]? =some (.val (.tup (bY q)))->sd[6]? =some (.val (.int (m:Int)))->PEd (oS CX0 P w K mg base ["_law_script","_law_start","_law_kit_here","_law_bound_here","_law_row_here","_law_cell","_law_number"] "_law_row" (bI aNt) f cdv A outer s H E).nox sd (.BinOp (.Name "_law_row_here" p1) .Add (.Tuple [.Name "_law_number" p2] x1 p3) p4) (.val (.tup (bY (q++[m])))):=λh1 h2=>PEd.cast (mE (d1:=bY q) (d2:=[.int (m:Int)]) (aC 4 h1 (pv 4)) (fW (ds:=[.int (m:Int)]) (aE (aC 6 h2 (pv 6)) aU) (aF rfl)) (by rw[rC];show _+1<=1000;omega)) (by rw[es])
  refine aG (gF (k:=decide (b<S45.prQ (prK L) (q++[m]))) (mU aFC (bW (ds:=[.lst (L.map skD),.tup (bY (q++[m]))]) GP hr rfl (aE (aC 2 rfl (pv 2)) (aE (longer rfl rfl) aU)) ⟨L,q++[m],ho1,by omega,rfl,rfl⟩ trivial rfl) (aC 3 rfl (pv 3)) (jC _)) (λh=> ?_) λh=>cQ ?_)
  ·rw[if_pos (of_decide_eq_true h)] at q3;rw[<-q3];exact bE (bT (aC 4 rfl (pv 4)) trivial rfl)
  ·rw[if_neg (of_decide_eq_false h)] at q3;exact bE (cB (d:=.tup (bY (q++[m]))) 4 nd rfl (Or.inl rfl) (longer rfl rfl) ⟨[.val (.scr ns),.val (.int (st:Int)),.val (.lst (L.map skD)),.val (.int b),.val (.tup (bY (q++[m]))),.un,.un],⟨.inr rfl,.inr rfl,.inr rfl,.inr rfl,.inr rfl,.inl rfl,.inl rfl,trivial⟩,q++[m],ho1,ql,q3,rfl⟩)
 ·obtain⟨q,q1,q2,q3,rfl⟩:=hn;rw[aB,oN] at q3;have q3:q=rP L b [] cs:=q3;rw[<-q3];exact bE (bT (aC 4 rfl (pv 4)) trivial rfl)
theorem aEA(F:Fun K "_law_some" "_law_some" aFF f fd)(zsorted:mg "sorted"=none)(zset:mg "set"=none)(hm:mg "_law_some"=some (.ref f))(GF:bL P w K mg base "_law_fillings" 1 1 aAU):bL P w K mg base "_law_some" 2 3 aLg:=by
 have nd:(["_law_size_here","_law_filling","_law_number","_law_box","_law_other"]:List Str).Nodup:=by decide+kernel
 have nd2:(["_law_one","_law_box","_law_filling"]:List Str).Nodup:=by decide+kernel
 refine eJ (N:=["_law_size_here","_law_filling","_law_number","_law_box","_law_other"]) (ps:=["_law_size_here","_law_filling","_law_number"]) (k:=1) F ⟨rfl,rfl,rfl,nd,rfl,by decide+kernel,by decide+kernel⟩ hm (λ_ _ _ _ _ _ us hl=>match us,hl with | [_,_,_],_=>rfl) λcdv A outer s H E hr ds r hl c=> ?_
 obtain⟨p,g,n,hp,hg,rfl,rfl⟩:=c;have hu:(A.deeper (Aj "_law_some" (bI aFF) s.heap.objs.size f cdv)).units+10<AQ:=by have:=hr.un;omega
 have f9:(bV p).length<=64:=lI hp;have fpos:0<(bV p).length:=gP.mpr λz=>by rw[z] at hg;cases hg
 obtain⟨s1,s2,s3,s4,s5⟩:=uB p hp;have p20:(0:Int)<p.2:=by omega
 have q0:=dP (n / 5) (kN p20);have q1:=cK (n / 5) p20;have gl:=(kP hp hg).len;have e0:tU p g n=if n%5=0 then none else if n%5<3 then some [g] else if n%5=3 then some ((bV p).filter λh=>decide (h.getD (n / 5%p.2).toNat 0=g.getD (n / 5%p.2).toNat 0)) else some ((bV p).filter λh=>decide (h∈[g,(bV p).getD (n / 40%((bV p).length:Int)).toNat []])):=rfl
 rw[e0];refine aG (cB (d:=.int (((n / 5%p.2).toNat:Nat):Int)) 3 nd rfl (Or.inr rfl) (PEd.ic (cJ eX (cJ lP (aC 2 rfl (pv 2)) bA ⟨by decide,by decide⟩) (dD (n:=1) (d:=.int p.2) (aC 0 rfl (pv 0)) bA rfl λ_ _=>rfl) p20) (by omega)) ?_);have bl:(n / 5%p.2).toNat<p.2.toNat:=by omega
 generalize (n / 5%p.2).toNat=bx at bl;refine aG (gF (k:=decide (n%5=0)) (rD (cJ eX (aC 2 rfl (pv 2)) bA (by decide)) bA) (λh=> ?_) λh=>cQ ?_)
 ·rw[if_pos (of_decide_eq_true h)];exact bE (bT mP trivial rfl)
 rw[if_neg (of_decide_eq_false h)];refine aG (gF (k:=decide (n%5<3)) (mU aFw (cJ eX (aC 2 rfl (pv 2)) bA (by decide)) bA (jC _)) (λh=> ?_) λh=>cQ ?_)
 ·rw[if_pos (of_decide_eq_true h)];exact bE (bT (PEd.val (iA (ds:=[bG g]) (aE (aC 1 rfl (pv 1)) aU) (aF rfl))) trivial rfl)
 rw[if_neg (of_decide_eq_false h)];refine aG (gF (k:=decide (n%5=3)) (rD (cJ eX (aC 2 rfl (pv 2)) bA (by decide)) bA) (λh=> ?_) λh=>cQ ?_)
 ·rw[if_pos (of_decide_eq_true h)]
  have ec:(((bV p).map bG).filter λd=>decide ((mR d).getD bx 0=g.getD bx 0)).map id=((bV p).filter λh=>decide (h.getD bx 0=g.getD bx 0)).map bG:=by
   rw[jG,xO];congr 1;refine aIj λh _=> ?_
   show decide ((mR (bG h)).getD bx 0=_)=_;rw[kM]
  refine bE (bT (PEd.val (PEd.cast (jE (ds:=(bV p).map bG) (N:=["_law_one","_law_box","_law_filling"]) (M:=["_law_size_here","_law_filling","_law_number","_law_box","_law_other"]) (cap:=[none,some 3,some 1]) (sc:=bI aFF) (Tb:=λd=>[.val d,.val (.int (bx:Int)),.val (bG g)]) (λd=>decide ((mR d).getD bx 0=g.getD bx 0)) id (gU (PEd.val (bW (ds:=[cS p]) GF hr rfl (aE (aC 0 rfl (pv 0)) aU) ⟨p,hp,rfl,rfl⟩ trivial rfl))) (by rw[aB];omega) rfl (by decide+kernel) rfl (by decide+kernel) rfl (λcl C fp s H d hd=>eV 0 (cP (i:=0) nd2 rfl (Or.inl rfl))) (λd hd=>⟨.inl rfl,.inr rfl,.inr rfl,trivial⟩) (λcl C fp s H d hd=>.inr ⟨_,rfl, ?_⟩) λcl C2 fp s H d hd _=>(aC 0 rfl (pv 0))) (by rw[ec]))) trivial rfl);obtain⟨h,hh,rfl⟩:=uX hd;have hl:=(kP hp hh).len;rw[kM];exact rD (dD (n:=bx) (ds:=h.map D.int) (aC 0 rfl (pv 0)) (aC 1 rfl (pv 1)) (vI (by omega)) λ_ _=>rfl) (dD (n:=bx) (ds:=g.map D.int) (aC 2 rfl (pv 2)) (aC 1 rfl (pv 1)) (vI (by omega)) λ_ _=>rfl)
 rw[if_neg (of_decide_eq_false h)]
 have em:p.1*p.2=((p.1.toNat*p.2.toNat:Nat):Int):=by rw[Int.natCast_mul];congr 1<;>omega
 have m6:p.1.toNat*p.2.toNat<=1000:=by
  have:((p.1.toNat*p.2.toNat:Nat):Int)<=6:=by rw[<-em];exact s5
  omega
 have e2:((2^(p.1.toNat*p.2.toNat):Nat):Int)=((bV p).length:Int):=by unfold bV;rw[rL,<-Nat.pow_mul]
 obtain⟨o1,o0⟩:=gE (n / 40) fpos;have om:(bV p).getD (n / 40%((bV p).length:Int)).toNat []∈bV p:=getD_mem o1;refine aG (cB (d:=bG ((bV p).getD (n / 40%((bV p).length:Int)).toNat [])) 4 nd rfl (Or.inl rfl) (oD (i:=n / 40%((bV p).length:Int)) (ds:=(bV p).map bG) (PEd.bor (PEd.val (bW (ds:=[cS p]) GF hr rfl (aE (aC 0 rfl (pv 0)) aU) ⟨p,hp,rfl,rfl⟩ trivial rfl))) (cJ eX (cJ lP (aC 2 rfl (pv 2)) bA ⟨by decide,by decide⟩) (PEd.ic (uR (k:=p.1.toNat*p.2.toNat) (PEd.ic (cJ iW (dD (n:=0) (d:=.int p.1) (aC 0 rfl (pv 0)) bA rfl λ_ _=>rfl) (dD (n:=1) (d:=.int p.2) (aC 0 rfl (pv 0)) bA rfl λ_ _=>rfl) (iP (bQ (by omega:_<=6) (by decide)) (bQ (by omega:_<=6) (by decide)))) em) m6) e2) (by omega)) o0 (rO o1) λ_ _=>rfl) ?_);generalize (bV p).getD (n / 40%((bV p).length:Int)).toNat []=o at om
 have inA:∀x∈[g,o],x∈bV p:=λx hx=>by
  rcases aQ.mp hx with rfl|hx
  ·exact hg
  ·rw[aJ.mp hx];exact om
 exact bE (bT (PEd.val (aAG (rk:=nF p) (ps:=[g,o]) (qs:=(bV p).filter fun h=>decide (h∈[g,o])) hu rfl zsorted rfl zset (PEd.val (iA (ds:=[bG g,bG o]) (aE (aC 1 rfl (pv 1)) (aE (aC 4 rfl (pv 4)) aU)) (aF rfl))) (fun x hx z=>by
  have:=(kP hp (inA x hx)).len;rw[z] at this;simp at this
  omega) (by show 2<=72;decide) (λx hx y hy=>aIK p hp x (inA x hx) y (inA y hy)) (λx hx y hy=>aFM hp (inA x hx) (inA y hy)) (λx=>⟨λh=>of_decide_eq_true (fG.mp h).2,λh=>fG.mpr ⟨inA x h,decide_eq_true h⟩⟩) ((aDC hp).filter _))) trivial rfl)
theorem aEx(F:Fun K "_law_wish" "_law_wish" aLv f fd)(zlen:mg "len"=none)(zrange:mg "range"=none)(hm:mg "_law_wish"=some (.ref f))(GC:bL P w K mg base "_law_cell_at" 1 2 aFy)(GM:bL P w K mg base "_law_mixed" 1 2 CMx)(GS:bL P w K mg base "_law_some" 2 3 aLg):bL P w K mg base "_law_wish" 3 4 aLD:=by
 have nd:(["_law_script","_law_start","_law_size_here","_law_table_here","_law_wish_here","_law_away","_law_k","_law_number","_law_filling"]:List Str).Nodup:=by decide+kernel
 refine eJ (N:=["_law_script","_law_start","_law_size_here","_law_table_here","_law_wish_here","_law_away","_law_k","_law_number","_law_filling"]) (ps:=["_law_script","_law_start","_law_size_here","_law_table_here"]) (k:=2) F ⟨rfl,rfl,rfl,nd,rfl,by decide+kernel,by decide+kernel⟩ hm (λ_ _ _ _ _ _ us hl=>match us,hl with | [_,_,_,_],_=>rfl) λcdv A outer s H E hr ds r hl c=> ?_
 obtain⟨p,T,ns,st,hp,tl,tin,hst,rfl,rfl⟩:=c;have hr1:=hr.mono (show 1<=2 by decide);have f9:(bV p).length<=64:=lI hp;refine aG (iG (ds:=([]:List (Option (List (List Int)))).map wsD) 4 nd rfl (Or.inl rfl) (iA (ds:=[]) aU (aF rfl)) λl4=> ?_);refine aG (cB (d:=.bl (decide (ns.getD st 0%6=1))) 5 nd rfl (Or.inl rfl) (aHl (cJ eX (bW (ds:=[.scr ns,.int (st:Int)]) GC hr1 rfl (aE (aC 0 rfl (pv 0)) (aE (aC 1 rfl (pv 1)) aU)) ⟨ns,st,rfl,by omega,rfl⟩ trivial rfl) bA (by decide)) bA) ?_);refine aG (hX (ds:=jJ 0 T.length) (λt sd=>sd=[.val (.scr ns),.val (.int (st:Int)),.val (cS p),.val (.tup (T.map bG)),.own l4 ((sD p T ns st t).map wsD),.val (.bl (decide (ns.getD st 0%6=1))),.un,.un,.un]) (kJ (n:=T.length) rfl zrange (PEd.ic (aDc rfl zlen (aC 3 rfl (pv 3))) (by rw[aB])) (by omega)) ⟨_,Le.refl _,rfl⟩ (λt d sdt hd ht=> ?_) λsdn hn=> ?_)
 ·subst ht;obtain⟨tT,rfl⟩:=kK hd;rw[aPs,aBO];have wl:((sD p T ns st t).map wsD).length<=1000:=by unfold sD;rw[aB,aB,eM];omega
  generalize sD p T ns st t=W at wl;refine⟨[.val (.scr ns),.val (.int (st:Int)),.val (cS p),.val (.tup (T.map bG)),.own l4 (W.map wsD),.val (.bl (decide (ns.getD st 0%6=1))),.val (.int (t:Int)),.un,.un],eV 6 (cP (i:=6) nd rfl (Or.inl rfl)), ?_⟩;refine aG (cB (d:=.int (mxS (ns.getD (st+1+t) 0) (70+t))) 7 nd rfl (Or.inl rfl) (bW (ds:=[.int (ns.getD (st+1+t) 0),.int ((70+t:Nat):Int)]) GM hr1 rfl (aE (bW (ds:=[.scr ns,.int ((st+1+t:Nat):Int)]) GC hr1 rfl (aE (aC 0 rfl (pv 0)) (aE (PEd.ic (gO iL (gO iL (aC 1 rfl (pv 1)) bA) (aC 6 rfl (pv 6))) (by omega)) aU)) ⟨ns,st+1+t,rfl,by omega,rfl⟩ trivial rfl) (aE (PEd.ic (gO iL bA (aC 6 rfl (pv 6))) (by omega)) aU)) ⟨_,70+t,rfl,by omega,rfl⟩ trivial rfl) ?_);generalize mxS (ns.getD (st+1+t) 0) (70+t)=n;have wi:=aDB tin (ns.getD st 0) n tT;have e0:yP T (ns.getD st 0) n t=if ns.getD st 0%6=1 then T.getD (n / 7%(T.length:Int)).toNat [] else T.getD t []:=rfl
  obtain⟨o1,o0⟩:=gE (n / 7) (show 0<T.length by omega);refine aG (cB (d:=bG (T.getD t [])) 8 nd rfl (Or.inl rfl) (dD (n:=t) (aC 3 rfl (pv 3)) (aC 6 rfl (pv 6)) (rO tT) λ_ _=>rfl) ?_);generalize ns.getD st 0=a at wi e0;refine aFE (K:=∀g,yP T a n t=g->PSd _ [.val (.scr ns),.val (.int (st:Int)),.val (cS p),.val (.tup (T.map bG)),.own l4 (W.map wsD),.val (.bl (decide (a%6=1))),.val (.int (t:Int)),.val (.int n),.val (bG g)] _ _) (λkey=>aG (gF (k:=decide (a%6=1)) (qY (aC 5 rfl (pv 5))) (λh=> ?_) λh=>cQ (key _ (e0.trans (if_neg (of_decide_eq_false h)))))) λg hg=> ?_
  ·exact bE (cB (d:=bG (T.getD (n / 7%(T.length:Int)).toNat [])) 8 nd rfl (Or.inl rfl) (mD (i:=n / 7%(T.length:Int)) (aC 3 rfl (pv 3)) (cJ eX (cJ lP (aC 7 rfl (pv 7)) bA ⟨by decide,by decide⟩) (PEd.ic (aDc rfl zlen (aC 3 rfl (pv 3))) (by rw[aB])) (by omega)) o0 (rO o1) λ_ _=>rfl) (key _ (e0.trans (if_pos (of_decide_eq_true h)))))
  ·rw[hg] at wi ⊢;refine bE (nX (d:=wsD (tU p g n)) 4 rfl (pv 4) (bW (ds:=[cS p,bG g,.int n]) GS hr rfl (aE (aC 2 rfl (pv 2)) (aE (aC 8 rfl (pv 8)) (aE (aC 7 rfl (pv 7)) aU))) ⟨p,g,n,hp,wi,rfl,rfl⟩ trivial rfl) wl ⟨[.val (.scr ns),.val (.int (st:Int)),.val (cS p),.val (.tup (T.map bG)),.own l4 ((W++[tU p g n]).map wsD),.val (.bl (decide (a%6=1))),.un,.un,.un],⟨.inr rfl,.inr rfl,.inr rfl,.inr rfl,.inr ?_,.inr rfl,.inl rfl,.inl rfl,.inl rfl,trivial⟩,rfl⟩);rw[aP];rfl
 ·subst hn;rw[iJ];exact bE (nG 4 rfl (pv 4) rfl)
theorem aGe(F:Fun K "_law_does" "_law_does" aND f fd)(zzip:mg "zip"=none)(hm:mg "_law_does"=some (.ref f)):bL P w K mg base "_law_does" 1 2 aLb:=by
 have nd:(["_law_wish_here","_law_table_here","_law_some_here","_law_filling"]:List Str).Nodup:=by decide+kernel
 refine eJ (N:=["_law_wish_here","_law_table_here","_law_some_here","_law_filling"]) (ps:=["_law_wish_here","_law_table_here"]) (k:=0) F ⟨rfl,rfl,rfl,nd,rfl,by decide+kernel,by decide+kernel⟩ hm (λ_ _ _ _ _ _ us hl=>match us,hl with | [_,_],_=>rfl) λcdv A outer s H E hr ds r hl c=> ?_
 obtain⟨p,w,T,hp,W,OT,rfl,rfl⟩:=c;have hu:(A.deeper (Aj "_law_does" (bI aND) s.heap.objs.size f cdv)).units+4<AQ:=by have:=hr.un;omega
 refine aG (hX (ds:=aKx (w.map wsD) (T.map bG)) (λk sd=>(∀j,j<k->aIs w T j=false)/\sd=[.val (.lst (w.map wsD)),.val (.tup (T.map bG)),.un,.un]) (aKn false true rfl zzip (aC 0 rfl (pv 0)) (aC 1 rfl (pv 1))) ⟨_,Le.refl _,λj hj=>by omega,rfl⟩ (λk d sdk hd hk=> ?_) λsdn hn=> ?_)
 ·obtain⟨x,y,hx,hy,rfl⟩:=aBn hd;obtain⟨kW,rfl⟩:=aLP hx;obtain⟨kT,rfl⟩:=nH hy;obtain⟨hn,rfl⟩:=hk;refine⟨[.val (.lst (w.map wsD)),.val (.tup (T.map bG)),.val (wsD (w.getD k none)),.val (bG (T.getD k []))],kQ (js:=[2,3]) rfl (eU (cP (i:=2) nd rfl (Or.inl rfl)) (eU (cP (i:=3) nd rfl (Or.inl rfl)) kO)) rfl rfl, ?_⟩;refine bE (gF (k:=aIs w T k) ?_ (λh=> ?_) λh=>cQ ?_)
  ·unfold aIs;cases hq:w.getD k none with
   |none=>exact PWd.pt (uQ (k:=false) (j:=false) (qZ (d:=.non) (aC 2 rfl (pv 2)) mP) λh=>by cases h)
   |some L=>exact PWd.pt (uQ (k:=true) (j:= !decide (T.getD k []∈L)) (qZ (d:=.lst (L.map bG)) (aC 2 rfl (pv 2)) mP) λ_=>aAZ (PTd.cast (wU (d:=bG (T.getD k [])) (ds:=L.map bG) (aC 3 rfl (pv 3)) (aC 2 rfl (pv 2)) (qV _) (oZ L) (by have:=nA L;show(A.deeper _).units+1+_<AQ;omega)) (by rw[aBy])))
  ·refine bE (bT aIz trivial ?_);rw[show pZ w (bV p) T=some ((bV p).getD k []) from uV (by rw[<-W.len];exact kW) h hn];rfl
  ·refine⟨[.val (.lst (w.map wsD)),.val (.tup (T.map bG)),.un,.un],⟨.inr rfl,.inr rfl,.inl rfl,.inl rfl,trivial⟩,λj hj=> ?_,rfl⟩
   by_cases q:j<k
   ·exact hn j q
   ·have:j=k:=by omega
    subst this;exact h
 ·obtain⟨hn,rfl⟩:=hn;rw[wK,aB,aB,W.len,OT.len,pE] at hn;refine bE (bT aIz trivial ?_);rw[show pZ w (bV p) T=none from vL hn];rfl
theorem aGt(F:Fun K "_law_due" "_law_due" aNu f fd)(hm:mg "_law_due"=some (.ref f))(GD:bL P w K mg base "_law_does" 1 2 aLb):bL P w K mg base "_law_due" 2 2 aIa:=by
 have nd:(["_law_book","_law_wish_here","_law_price_here","_law_row_here","_law_table_here"]:List Str).Nodup:=by decide+kernel
 have nd2:(["_law_entry","_law_price_here"]:List Str).Nodup:=by decide+kernel
 refine eJ (N:=["_law_book","_law_wish_here","_law_price_here","_law_row_here","_law_table_here"]) (ps:=["_law_book","_law_wish_here"]) (k:=1) F ⟨rfl,rfl,rfl,nd,rfl,by decide+kernel,by decide+kernel⟩ hm (λ_ _ _ _ _ _ us hl=>match us,hl with | [_,_],_=>rfl) λcdv A outer s H E hr ds r hl c=> ?_
 obtain⟨p,L,b,B,ws,hp,S,O,W,rfl,rfl⟩:=c;have bl:=O.len;refine aG (hX (ds:=B.map enD) (λt sd=>ftQ p ws B=ftQ p ws (B.drop t)/\sd=[.val (.lst (B.map enD)),.val (.lst (ws.map wsD)),.un,.un,.un]) (gU (aC 0 rfl (pv 0))) ⟨_,Le.refl _,rfl,rfl⟩ (λt d sdt hd ht=> ?_) λsdn hn=> ?_)
 ·obtain⟨q,rfl⟩:=ht;obtain⟨e,he,rfl,_⟩:=lO hd;obtain⟨tl,ee⟩:=aN.mp he;obtain⟨x1,x2,x3,x4,x5⟩:=O.ent e (bD he);have tk:zF p e.2.2:=by rw[x4];exact aCY hp S x1
  rw[dJ tl,ee] at q;refine⟨[.val (.lst (B.map enD)),.val (.lst (ws.map wsD)),.val (.int e.1),.val (.tup (bY e.2.1)),.val (.tup (e.2.2.map bG))],kQ (ds:=[.int e.1,.tup (bY e.2.1),.tup (e.2.2.map bG)]) (js:=[2,3,4]) rfl (eU (cP (i:=2) nd rfl (Or.inr rfl)) (eU (cP (i:=3) nd rfl (Or.inl rfl)) (eU (cP (i:=4) nd rfl (Or.inl rfl)) kO))) rfl rfl, ?_⟩;refine bE (gF (k:=doQ p ws e.2.2) (qY (bW (ds:=[.lst (ws.map wsD),.tup (e.2.2.map bG)]) GD hr rfl (aE (aC 1 rfl (pv 1)) (aE (aC 4 rfl (pv 4)) aU)) ⟨p,ws,e.2.2,hp,W,tk,rfl,rfl⟩ trivial rfl)) (λh=> ?_) λh=>cQ ?_)
  ·have e3:ftQ p ws B=some e:=by rw[q];exact aCo (p:=λe:Bk=>doQ p ws e.2.2) h
   unfold lrD;rw[e3]
   have ec:((B.map enD).filter (aNp e.1)).map id=(B.filter λx=>decide (x.1<e.1)).map enD:=by rw[jG,xO];rfl
   refine bE (bT (fW (ds:=[.str "row",.tup (bY e.2.1),.lst ((B.filter λx=>decide (x.1<e.1)).map enD)]) (aE dL (aE (aC 3 rfl (pv 3)) (aE (PEd.val (PEd.cast (jE (ds:=B.map enD) (N:=["_law_entry","_law_price_here"]) (M:=["_law_book","_law_wish_here","_law_price_here","_law_row_here","_law_table_here"]) (cap:=[none,some 2]) (sc:=bI aNu) (Tb:=λd=>[.val d,.val (.int e.1)]) (aNp e.1) id (gU (aC 0 rfl (pv 0))) (by rw[aB];omega) rfl (by decide+kernel) rfl (by decide+kernel) rfl (λcl C fp s H d hd=>eV 0 (cP (i:=0) nd2 rfl (Or.inl rfl))) (λd hd=>⟨.inl rfl,.inr rfl,trivial⟩) (λcl C fp s H d hd=>.inr ⟨_,rfl, ?_⟩) λcl C2 fp s H d hd _=>(aC 0 rfl (pv 0))) (by rw[ec]))) aU))) (aF rfl)) trivial rfl);obtain⟨x,_,rfl⟩:=aO.mp hd;exact mU (g:=λi j=>decide (i<j)) aFw (dD (n:=0) (ds:=[.int x.1,.tup (bY x.2.1),.tup (x.2.2.map bG)]) (d:=.int x.1) (aC 0 rfl (pv 0)) bA rfl λ_ _=>rfl) (aC 1 rfl (pv 1)) (jC _)
  ·refine⟨[.val (.lst (B.map enD)),.val (.lst (ws.map wsD)),.un,.un,.un],⟨.inr rfl,.inr rfl,.inl rfl,.inl rfl,.inl rfl,trivial⟩, ?_,rfl⟩;rw[q];exact aCp (p:=λe:Bk=>doQ p ws e.2.2) (by rw[h];decide)
 ·obtain⟨q,rfl⟩:=hn;rw[aB,oN] at q;have q:ftQ p ws B=none:=q;unfold lrD;rw[q];exact bE (bT (fW (ds:=[.str "none",.lst (B.map enD)]) (aE dL (aE (aC 0 rfl (pv 0)) aU)) (aF rfl)) trivial rfl)
theorem aMo(F:Fun K "law" "law" rQ f fd)(zlist:mg "list"=none)(ztuple:mg "tuple"=none)(zisinstance:mg "isinstance"=none)(GC:bL P w K mg base "_law_cell_at" 1 2 aFy)(GZ:bL P w K mg base "_law_size" 2 1 aLr)(GK:bL P w K mg base "_law_kit" 3 3 aHe)(GB:bL P w K mg base "_law_bound" 1 3 aHd)(GM:bL P w K mg base "_law_moves" 3 2 (aPg P w K))(GR:bL P w K mg base "_law_row" 2 4 aHL)(GT:bL P w K mg base "_law_table" 2 3 (aHh P w K))(GW:bL P w K mg base "_law_wish" 3 4 aLD)(GO:bL P w K mg base "book_of" 6 3 aIG)(GU:bL P w K mg base "_law_due" 2 2 aIa)(GL:bL P w K mg base "least_row" 7 4 (aLd K)):FnOk P w K mg base CX0 8 f fd ["_law_script"] (spC K 1 aFH):=by
 have nd:(["_law_script","_law_size_here","_law_kit_here","_law_factor","_law_bound_here","_law_row_here","_law_wish_here","_law_due_here","_law_handed","_law_found"]:List Str).Nodup:=by decide+kernel
 refine aHC (N:=["_law_script","_law_size_here","_law_kit_here","_law_factor","_law_bound_here","_law_row_here","_law_wish_here","_law_due_here","_law_handed","_law_found"]) (ps:=["_law_script"]) (k:=7) F ⟨rfl,rfl,rfl,nd,rfl,by decide+kernel,by decide+kernel⟩ λcdv A outer s H E hr ds r hl c=> ?_
 obtain⟨ns,rfl,n63,hbit,rfl⟩:=c;have hr1:=hr.mono (show 1<=7 by decide);have hr2:=hr.mono (show 2<=7 by decide);have hr3:=hr.mono (show 3<=7 by decide);have hr6:=hr.mono (show 6<=7 by decide);have hu:(A.deeper (Aj "law" (bI rQ) s.heap.objs.size f cdv)).units+8<AQ:=by have:=hr.un;omega
 have cell:∀ {sd:List Slot}{p1 p2 p3 p4:Pos}{j1:Nat} (k:Nat),k<=1000->sd[0]? =some (.val (.scr ns))->PEd (oS CX0 P w K mg base ["_law_script","_law_size_here","_law_kit_here","_law_factor","_law_bound_here","_law_row_here","_law_wish_here","_law_due_here","_law_handed","_law_found"] "law" (bI rQ) f cdv A outer s H E).nox sd (.Call (.Name "_law_cell_at" p1) [.Name "_law_script" p2, .Constant (.int (k:Int)) j1 p3] [] p4) (.val (.int (ns.getD k 0))):=λk hk hs=>bW (ds:=[.scr ns,.int (k:Int)]) GC hr1 rfl (aE (aC 0 hs (pv 0)) (aE bA aU)) ⟨ns,k,rfl,hk,rfl⟩ trivial rfl
 refine aG (cB (d:=cS (yW (ns.getD 0 0))) 1 nd rfl (Or.inl rfl) (bW (ds:=[.int (ns.getD 0 0)]) GZ hr2 rfl (aE (cell 0 (by decide) rfl) aU) ⟨_,rfl,rfl⟩ trivial rfl) ?_);have hp:=aJV (ns.getD 0 0);generalize yW (ns.getD 0 0)=p at hp;have KO:=aFQ hp ns 2;refine aG (aJh (d:=.tup [.lst ((wD p ns 2).map skD),.int (nE (ns.getD 2 0))]) (sd':=[.val (.scr ns),.val (cS p),.val (.lst ((wD p ns 2).map skD)),.val (.int (nE (ns.getD 2 0))),.un,.un,.un,.un,.un,.un]) (bW (ds:=[.scr ns,.int ((2:Nat):Int),cS p]) GK hr3 rfl (aE (aC 0 rfl (pv 0)) (aE bA (aE (aC 1 rfl (pv 1)) aU))) ⟨p,ns,2,hp,by decide,rfl,rfl⟩ trivial rfl) (kQ (ds:=[.lst ((wD p ns 2).map skD),.int (nE (ns.getD 2 0))]) (js:=[2,3]) rfl (eU (cP (i:=2) nd rfl (Or.inl rfl)) (eU (cP (i:=3) nd rfl (Or.inl rfl)) kO)) rfl rfl) ?_);generalize wD p ns 2=L at KO;generalize nE (ns.getD 2 0)=fc at KO;have S:=KO.stk;have l5:=KO.le;obtain⟨b0,b1⟩:=aGx (ns.getD 1 0) L.length KO.f13;refine aG (cB (d:=.int (yZ (ns.getD 1 0) L.length fc)) 4 nd rfl (Or.inl rfl) (bW (ds:=[.int (ns.getD 1 0),.lst (L.map skD),.int fc]) GB hr1 rfl (aE (cell 1 (by decide) rfl) (aE (aC 2 rfl (pv 2)) (aE (aC 3 rfl (pv 3)) aU))) ⟨_,L,fc,KO.pos,l5,KO.f13,rfl,rfl⟩ trivial rfl) ?_);generalize yZ (ns.getD 1 0) L.length fc=b at b0 b1;obtain⟨s1,s2,s3,s4,s5⟩:=uB p hp;refine aFE (K:=∀b':Int,0<=b'->b'<=b->PSd _ [.val (.scr ns),.val (cS p),.val (.lst (L.map skD)),.val (.int fc),.val (.int b'),.un,.un,.un,.un,.un] _ _) (λkey=>aG (gF (k:=decide (4<p.1*p.2)) (mU aFC (cJ iW (dD (n:=0) (d:=.int p.1) (aC 1 rfl (pv 1)) bA rfl λ_ _=>rfl) (dD (n:=1) (d:=.int p.2) (aC 1 rfl (pv 1)) bA rfl λ_ _=>rfl) (iP (bQ (by omega:_<=6) (by decide)) (bQ (by omega:_<=6) (by decide)))) bA (jC _)) (λh=>bE (cB (d:=.int (b / 2)) 4 nd rfl (Or.inl rfl) (cJ lP (aC 4 rfl (pv 4)) bA ⟨by decide,by decide⟩) (key _ (by omega) (by omega)))) λh=>cQ (key _ b0 (Int.le_refl _)))) λb' c0 c1=> ?_
 have FU:=aOj (b:=b') KO (by omega);have O:=aHY hp S FU;obtain⟨r1,r2,r3⟩:=aGE (b:=b') KO.pos c0 n63 25;refine aG (cB (d:=.tup (bY (wH L b' ns 25))) 5 nd rfl (Or.inl rfl) (bW (ds:=[.scr ns,.int ((25:Nat):Int),.lst (L.map skD),.int b']) GR hr2 rfl (aE (aC 0 rfl (pv 0)) (aE bA (aE (aC 2 rfl (pv 2)) (aE (aC 4 rfl (pv 4)) aU)))) ⟨ns,25,p,L,b',S,c0,by decide,n63,hbit,rfl,rfl⟩ trivial rfl) ?_);generalize wH L b' ns 25=own at r1 r2 r3;have tl:=aDn hp S r1;have ti:=vH hp S r1;refine aG (iG (ds:=(aCv p (S45.tabQ (oA p L) (bV p) own) ns 8).map wsD) 6 nd rfl (Or.inl rfl) (bW (ds:=[.scr ns,.int ((8:Nat):Int),cS p,.tup ((S45.tabQ (oA p L) (bV p) own).map bG)]) GW hr3 rfl (aE (aC 0 rfl (pv 0)) (aE bA (aE (aC 1 rfl (pv 1)) (aE (bW (ds:=[cS p,.lst (L.map (mgD P w K p)),.tup (bY own)]) GT hr2 rfl (aE (aC 1 rfl (pv 1)) (aE (PEd.val (bW (ds:=[cS p,.lst (L.map skD)]) GM hr3 rfl (aE (aC 1 rfl (pv 1)) (aE (aC 2 rfl (pv 2)) aU)) ⟨p,L,hp,S,rfl,rfl⟩ trivial rfl)) (aE (aC 5 rfl (pv 5)) aU))) ⟨p,L,own,hp,S,r1,by omega,rfl,rfl⟩ trivial rfl) aU)))) ⟨p,_,ns,8,hp,tl,ti,by decide,rfl,rfl⟩ trivial rfl) λl7=>mJ 6 rfl ?_);have W:=(aFP hp tl ti ns 8).wish hp;generalize aCv p (S45.tabQ (oA p L) (bV p) own) ns 8=ws at W;have w64:ws.length<=64:=by rw[W.len];exact lI hp
 obtain⟨ds,ls,e1,e2,lsl,pt,dt⟩:=aJo K (w:=ws) O.len;obtain⟨ph,dh⟩:=aIW L ws;refine aCA (sd':=[.val (.scr ns),.val (cS p),.val (.lst (L.map skD)),.val (.int fc),.val (.int b'),.val (.tup (bY own)),.val (.lst (ws.map wsD)),.un,.un,.un]) (Le.refl _) ?_;refine aG (cB (d:=.tup (ds++[D.lst ls])) 7 nd rfl (Or.inl rfl) (bW (r:=.val (.tup (ds++[D.lst ls]))) (ds:=[.lst ((bkQ p L b').map enD),.lst (ws.map wsD)]) GU hr2 rfl (aE (PEd.val (bW (ds:=[cS p,.lst (L.map skD),.int b']) GO hr6 rfl (aE (aC 1 rfl (pv 1)) (aE (aC 2 rfl (pv 2)) (aE (aC 4 rfl (pv 4)) aU))) ⟨p,L,b',_,hp,S,KO.nd,FU,rfl,rfl⟩ trivial rfl)) (aE (aC 6 rfl (pv 6)) aU)) ⟨p,L,b',_,ws,hp,S,O,W,rfl,by rw[e2]⟩ trivial rfl) ?_);refine aG (cB (d:=.lst [.lst (L.map skD),.lst (ws.map wsD)]) 8 nd rfl (Or.inl rfl) (PEd.val (iA (ds:=[.lst (L.map skD),.lst (ws.map wsD)]) (aE (PEd.val (aBd rfl zlist (PEd.bor (aC 2 rfl (pv 2))))) (aE (PEd.val (aBd rfl zlist (PEd.bor (aC 6 rfl (pv 6))))) aU)) (aF rfl))) ?_);refine aG (aGP (ds:=ds) (ls:=ls) 9 nd rfl (Or.inl rfl) (bW (r:=tlR K ds ls) (ds:=[cS p,.lst (L.map skD),.int b',.lst (ws.map wsD)]) GL hr rfl (aE (aC 1 rfl (pv 1)) (aE (nY (n:=0) (PEd.bor (aC 8 rfl (pv 8))) bA rfl λ_ _=>rfl) (aE (aC 4 rfl (pv 4)) (aE (nY (n:=1) (PEd.bor (aC 8 rfl (pv 8))) bA rfl λ_ _=>rfl) aU)))) ⟨p,L,b',_,ws,hp,S,KO.nd,FU,W,rfl,e1.symm⟩ trivial rfl) λF0 t0 l0 us hb0 hl0 ht0 hul=> ?_);refine aCA (sd':=[.gh (.scr ns) (gV K F0 (.scr ns)),.gh (cS p) (gV K F0 (cS p)),.gh (.lst (L.map skD)) (gV K F0 (.lst (L.map skD))),.gh (.int fc) (gV K F0 (.int fc)),.gh (.int b') (gV K F0 (.int b')),.gh (.tup (bY own)) (gV K F0 (.tup (bY own))),.gh (.lst (ws.map wsD)) (gV K F0 (.lst (ws.map wsD))),.gh (.tup (ds++[D.lst ls])) (gV K F0 (.tup (ds++[D.lst ls]))),.gh (.lst [.lst (L.map skD),.lst (ws.map wsD)]) (gV K F0 (.lst [.lst (L.map skD),.lst (ws.map wsD)])),.gh (.tup (ds++[D.lst ls])) λv F=>v=.ref t0/\Same F0 F]) (Le.refl _) ?_;refine aG (gH (k:=false) (PWd.pt (qM (k:=false) (j:=false) (PTd.cast (aDW (k:=true) (qY (PEd.cast (aDg rfl zisinstance rfl ztuple PyProof.Rows.boot_tuple (oE 9 rfl (pv 9)) (λ_=>by simp) (aEF _ _)) rfl))) rfl) λ_=>qM (k:=false) (j:=false) (PTd.cast (aDW (k:=true) (qY (PEd.cast (aDg rfl zisinstance rfl zlist PyProof.Rows.boot_list (aJf (i:= -1) (d:=.lst ls) (oE 9 rfl (pv 9)) (aLS bA) (L2.atI_last _ _) λ_ _=>rfl) (λ_=>by simp) (aGJ _ _)) rfl))) rfl) λ_=>qM (k:=false) (j:=false) (PTd.cast (aCU (ra:=.val (.tup (ds++[D.lst ls]))) (rb:=.val (.tup (ds++[D.lst ls]))) (oE 9 rfl (pv 9)) (oE 7 rfl (pv 7)) trivial trivial (.inl ⟨rfl,rfl⟩) pt pt (by show(A.deeper (Aj "law" (bI rQ) s.heap.objs.size f cdv)).units+dep (.tup (ds++[D.lst ls]))+1<AQ;omega)) (by show(!deq (.tup (ds++[D.lst ls])) (.tup (ds++[D.lst ls])))=false;rw[nI _ pt];rfl)) λ_=>aAm (PTd.cast (aCU (ra:=.val (.lst [.lst (L.map skD),.lst (ws.map wsD)])) (rb:=.val (.lst [.lst (L.map skD),.lst (ws.map wsD)])) (oE 8 rfl (pv 8)) (PEd.val (iA (ds:=[.lst (L.map skD),.lst (ws.map wsD)]) (aE (oE 2 rfl (pv 2)) (aE (oE 6 rfl (pv 6)) aU)) (aF rfl))) trivial trivial (.inr ⟨rfl,rfl⟩) ph ph (by show(A.deeper (Aj "law" (bI rQ) s.heap.objs.size f cdv)).units+dep (.lst [.lst (L.map skD),.lst (ws.map wsD)])+1<AQ;omega)) (by show(!deq (.lst [.lst (L.map skD),.lst (ws.map wsD)]) (.lst [.lst (L.map skD),.lst (ws.map wsD)]))=false;rw[nI _ ph];rfl)))) rfl (cQ ?_));refine aIS (ds:=ds) (ls:=ls) (d':=.tup [.int 0,.tup [],.tup []]) (sd2:=[.val (.scr ns),.val (cS p),.val (.lst (L.map skD)),.val (.int fc),.val (.int b'),.val (.tup (bY own)),.val (.lst (ws.map wsD)),.val (.tup (ds++[D.lst ls])),.val (.lst [.lst (L.map skD),.lst (ws.map wsD)]),.un]) 9 hb0 hl0 ht0 hul rfl (pv 9) (fW (ds:=[.int 0,.tup [],.tup []]) (aE bA (aE (fW (ds:=[]) aU (aF rfl)) (aE (fW (ds:=[]) aU (aF rfl)) aU))) (aF rfl)) (by omega) ⟨.inr ⟨_,rfl,rfl⟩,.inr ⟨_,rfl,rfl⟩,.inr ⟨_,rfl,rfl⟩,.inr ⟨_,rfl,rfl⟩,.inr ⟨_,rfl,rfl⟩,.inr ⟨_,rfl,rfl⟩,.inr ⟨_,rfl,rfl⟩,.inr ⟨_,rfl,rfl⟩,.inr ⟨_,rfl,rfl⟩,.inl rfl,trivial⟩ ?_;exact bE (bT (PEd.cast (aMH (k:=true) (j:=true) (PEd.cast (aHo (ra:=.val (.tup (ds++[D.lst ls]))) (rb:=.val (.tup (ds++[D.lst ls]))) (PEd.valT (bW (r:=tlR K ds ls) (ds:=[cS p,.lst (L.map skD),.int b',.lst (ws.map wsD)]) GL hr rfl (aE (aC 1 rfl (pv 1)) (aE (aC 2 rfl (pv 2)) (aE (aC 4 rfl (pv 4)) (aE (aC 6 rfl (pv 6)) aU)))) ⟨p,L,b',_,ws,hp,S,KO.nd,FU,W,rfl,e1.symm⟩ trivial rfl)) (aC 7 rfl (pv 7)) trivial trivial (.inl ⟨rfl,rfl⟩) pt pt (by show(A.deeper (Aj "law" (bI rQ) s.heap.objs.size f cdv)).units+dep (.tup (ds++[D.lst ls]))+1<AQ;omega)) (by show R.val (.bl (deq (.tup (ds++[D.lst ls])) (.tup (ds++[D.lst ls]))))=_;rw[nI _ pt])) λ_=>aMQ (PEd.cast (aHo (ra:=.val (.lst [.lst (L.map skD),.lst (ws.map wsD)])) (rb:=.val (.lst [.lst (L.map skD),.lst (ws.map wsD)])) (aC 8 rfl (pv 8)) (PEd.val (iA (ds:=[.lst (L.map skD),.lst (ws.map wsD)]) (aE (aC 2 rfl (pv 2)) (aE (aC 6 rfl (pv 6)) aU)) (aF rfl))) trivial trivial (.inr ⟨rfl,rfl⟩) ph ph (by show(A.deeper (Aj "law" (bI rQ) s.heap.objs.size f cdv)).units+dep (.lst [.lst (L.map skD),.lst (ws.map wsD)])+1<AQ;omega)) (by show R.val (.bl (deq (.lst [.lst (L.map skD),.lst (ws.map wsD)]) (.lst [.lst (L.map skD),.lst (ws.map wsD)])))=_;rw[nI _ ph]))) rfl) trivial rfl)
end
theorem aAJ{t1 t2 t3:Tok}:Vals [V.str "not",V.str "up",V.str "down"] (#[Value.str "not" t1,Value.str "up" t2,Value.str "down" t3]:Array BO).toList:=.cons ⟨_,rfl⟩ (.cons ⟨_,rfl⟩ (.cons ⟨_,rfl⟩ .nil))
theorem all_mk{P:AG}{w:AL}{K:aA}{h:BS}{mg:Str->Option BO}{fa:BQ}(X:K.In h)(G:h.Ns AO mg)(hfa:mg "law"=some (.ref fa))
  {odL anL:Option BQ}{slL:Array (Option BO)}{ocL kVL dcL pmL cdL ctL:BO}{fL:BQ}{fBY:BQ}{dB:Option BQ}{t1 t2 t3:Tok}{nB:Nat}{sB:Array (Option BO)}{tmst:Tok}
  (aL:eI K AO "law"=some (some (.ref fL))) (lL:K.lookup fL=some ⟨ocL,odL,.func (gB "law" "law" (kR rQ) (iK rQ) (bI rQ) .none kVL dcL pmL anL cdL ctL),slL⟩) (cL:kF K cdL "law"=true) (kL:eE K (.ref fL)=true) (nrange:eI K AO "range"=some none) (ntuple:eI K AO "tuple"=some none) (nenumerate:eI K AO "enumerate"=some none) (nlen:eI K AO "len"=some none) (nmin:eI K AO "min"=some none) (nlist:eI K AO "list"=some none) (nsorted:eI K AO "sorted"=some none) (nint:eI K AO "int"=some none) (nsum:eI K AO "sum"=some none) (nset:eI K AO "set"=some none) (nzip:eI K AO "zip"=some none) (nisinstance:eI K AO "isinstance"=some none) (aBY:eI K AO "BY_ITSELF"=some (some (.ref fBY))) (lBY:K.lookup fBY=some ⟨.type "tuple",dB,.seq #[.str "not" t1,.str "up" t2,.str "down" t3] nB,sB⟩) (amst:eI K AO "MOST_TABLES"=some (some (.int 500 tmst))) (hC:FI K mg "word_count" aHO) (hEa:FI K mg "with_each_word" aCy) (hFi:FI K mg "fillings" aLm) (hNu:FI K mg "number_of" aPl) (hI:FI K mg "word_by_itself" aDq) (hA:FI K mg "word_by_another" aAX) (hN:FI K mg "new_word" aBf) (hB:FI K mg "written_box" aBC) (hS:FI K mg "step_on" aDI) (hNo:FI K mg "numbers_of_step" aNC) (hMo:FI K mg "moves_of" aCN) (hNb:FI K mg "numbers_behind" aIC) (hPu:FI K mg "put_longer_rows" aNP) (hFo:FI K mg "found_rows" sFd) (hTf:FI K mg "table_from" aCO) (hBk:FI K mg "book_of" aIx) (hMs:FI K mg "misses_at" aIy) (hDo:FI K mg "does_wish" aLp) (hFt:FI K mg "first_that_does" sFt) (hLr:FI K mg "least_row" sLr) (hCa:FI K mg "_law_cell_at" aDN) (hMi:FI K mg "_law_mixed" aHM) (hF:FI K mg "_law_fillings" aCP) (hLw:FI K mg "_law_word" aHJ) (hAf:FI K mg "_law_after" aPo) (hDr:FI K mg "_law_drawn" aCM) (hLm:FI K mg "_law_moves" aNG) (hZ:FI K mg "_law_size" aID) (hK:FI K mg "_law_kit" aIp) (hBd:FI K mg "_law_bound" aOW) (hLp:FI K mg "_law_price" aNH) (hTb:FI K mg "_law_table" aNo) (hRo:FI K mg "_law_row" aNt) (hSo:FI K mg "_law_some" aFF) (hWh:FI K mg "_law_wish" aLv) (hLd:FI K mg "_law_does" aND) (hDu:FI K mg "_law_due" aNu):
  ∃fd:AY,(∀ (s:BP) (v:BO),BindsTo s fd ⟨[v],[]⟩ [("_law_script",v)])/\∀base:BS,K.In base->base.Ns AO mg->FnOk P w K mg base CX0 8 fa fd ["_law_script"] (spC K 1 aFH):=by
 have e:=hfa.symm.trans (qF X G aL);cases e;have zrange:=dR X G nrange;have ztuple:=dR X G ntuple;have zenumerate:=dR X G nenumerate;have zlen:=dR X G nlen;have zmin:=dR X G nmin;have zlist:=dR X G nlist;have zsorted:=dR X G nsorted;have zint:=dR X G nint;have zsum:=dR X G nsum;have zset:=dR X G nset;have zzip:=dR X G nzip;have zisinstance:=dR X G nisinstance;have byself:∃ad,mg "BY_ITSELF"=some (.ref ad)/\∀H:Hp,SqT K H ad [V.str "not",V.str "up",V.str "down"]:=⟨_,qF X G aBY,λH=>.inr ⟨_,_,_,lBY,rfl,rfl,aF rfl,aAJ⟩⟩;have mst:∃t,mg "MOST_TABLES"=some (.int 500 t):=⟨_,qF X G amst⟩;obtain⟨fC,dC,mC,FC⟩:=hC;obtain⟨fEa,dEa,mEa,FEa⟩:=hEa;obtain⟨fFi,dFi,mFi,FFi⟩:=hFi;obtain⟨fNu,dNu,mNu,FNu⟩:=hNu;obtain⟨fI,dI,mI,FI⟩:=hI;obtain⟨fA,dA,mA,FA⟩:=hA;obtain⟨fN,dN,mN,FN⟩:=hN;obtain⟨fB,dB,mB,FB⟩:=hB;obtain⟨fS,dS,mS,FS⟩:=hS;obtain⟨fNo,dNo,mNo,FNo⟩:=hNo;obtain⟨fMo,dMo,mMo,FMo⟩:=hMo;obtain⟨fNb,dNb,mNb,FNb⟩:=hNb;obtain⟨fPu,dPu,mPu,FPu⟩:=hPu;obtain⟨fFo,dFo,mFo,FFo⟩:=hFo;obtain⟨fTf,dTf,mTf,FTf⟩:=hTf;obtain⟨fBk,dBk,mBk,FBk⟩:=hBk;obtain⟨fMs,dMs,mMs,FMs⟩:=hMs;obtain⟨fDo,dDo,mDo,FDo⟩:=hDo;obtain⟨fFt,dFt,mFt,FFt⟩:=hFt;obtain⟨fLr,dLr,mLr,FLr⟩:=hLr;obtain⟨fCa,dCa,mCa,FCa⟩:=hCa;obtain⟨fMi,dMi,mMi,FMi⟩:=hMi;obtain⟨fF,dF,mF,FF⟩:=hF;obtain⟨fLw,dLw,mLw,FLw⟩:=hLw;obtain⟨fAf,dAf,mAf,FAf⟩:=hAf;obtain⟨fDr,dDr,mDr,FDr⟩:=hDr;obtain⟨fLm,dLm,mLm,FLm⟩:=hLm;obtain⟨fZ,dZ,mZ,FZ⟩:=hZ;obtain⟨fK,dK,mK,FK⟩:=hK;obtain⟨fBd,dBd,mBd,FBd⟩:=hBd;obtain⟨fLp,dLp,mLp,FLp⟩:=hLp;obtain⟨fTb,dTb,mTb,FTb⟩:=hTb;obtain⟨fRo,dRo,mRo,FRo⟩:=hRo;obtain⟨fSo,dSo,mSo,FSo⟩:=hSo;obtain⟨fWh,dWh,mWh,FWh⟩:=hWh;obtain⟨fLd,dLd,mLd,FLd⟩:=hLd;obtain⟨fDu,dDu,mDu,FDu⟩:=hDu;have FL:=aHU (st:=rQ) lL cL kL;refine⟨gB "law" "law" (kR rQ) (iK rQ) (bI rQ) .none kVL dcL pmL anL cdL ctL,λs v=>.of_eq rfl,λbase _ _=> ?_⟩;have GC:=aFT (P:=P) (w:=w) (base:=base) FC zrange mC ;have GEa:=aIJ (P:=P) (w:=w) (base:=base) FEa zrange mEa ;have GFi:=aIV (P:=P) (w:=w) (base:=base) FFi zrange mFi GC GEa;have GNu:=aLW (P:=P) (w:=w) (base:=base) FNu mNu GC;have GI:=aEG (P:=P) (w:=w) (base:=base) FI mI ;have GA:=aCi (P:=P) (w:=w) (base:=base) FA mA ;have GN:=aBP (P:=P) (w:=w) (base:=base) FN byself mN GC GI GA;have GB:=aCj (P:=P) (w:=w) (base:=base) FB mB ;have GS:=aEI (P:=P) (w:=w) (base:=base) FS mS GB GN;have GNo:=aGl (P:=P) (w:=w) (base:=base) FNo ztuple mNo GNu GS GFi;have GMo:=aBJ (P:=P) (w:=w) (base:=base) FMo mMo GNo;have GNb:=aEJ (P:=P) (w:=w) (base:=base) FNb ztuple mNb ;have GPu:=aGk (P:=P) (w:=w) (base:=base) FPu zenumerate mPu GNb;have GFo:=aBM (P:=P) (w:=w) (base:=base) FFo zlen zmin zlist zsorted mst mFo GPu;have GTf:=aBN (P:=P) (w:=w) (base:=base) FTf ztuple mTf ;have GBk:=aEQ (P:=P) (w:=w) (base:=base) FBk zlen zrange ztuple mBk GFi GMo GFo GTf;have GMs:=aEH (P:=P) (w:=w) (base:=base) FMs zenumerate mMs GFi;have GDo:=aIT (P:=P) (w:=w) (base:=base) FDo mDo GMs;have GFt:=aJz (P:=P) (w:=w) (base:=base) FFt mFt GDo;have GLr:=aJU (P:=P) (w:=w) (base:=base) FLr mLr GBk GFt;have GCa:=aEz (P:=P) (w:=w) (base:=base) FCa zlen mCa ;have GMi:=aGm (P:=P) (w:=w) (base:=base) FMi mMi ;have GF:=aBS (P:=P) (w:=w) (base:=base) FF zrange mF ;have GLw:=aKh (P:=P) (w:=w) (base:=base) FLw mLw ;have GAf:=aGo (P:=P) (w:=w) (base:=base) FAf mAf GLw;have GDr:=aKg (P:=P) (w:=w) (base:=base) FDr mDr GMi;have GLm:=aGA (P:=P) (w:=w) (base:=base) FLm mLm GF GAf;have GZ:=aEs (P:=P) (w:=w) (base:=base) FZ mZ GMi;have GK:=aGp (P:=P) (w:=w) (base:=base) FK zrange zint mK GCa GMi GDr;have GBd:=aGq (P:=P) (w:=w) (base:=base) FBd zlen mBd ;have GLp:=aFK (P:=P) (w:=w) (base:=base) FLp zsum mLp ;have GTb:=aGd (P:=P) (w:=w) (base:=base) FTb ztuple mTb GF;have GRo:=aGa (P:=P) (w:=w) (base:=base) FRo zlen mRo GLp;have GSo:=aEA (P:=P) (w:=w) (base:=base) FSo zsorted zset mSo GF;have GWh:=aEx (P:=P) (w:=w) (base:=base) FWh zlen zrange mWh GCa GMi GSo;have GLd:=aGe (P:=P) (w:=w) (base:=base) FLd zzip mLd ;have GDu:=aGt (P:=P) (w:=w) (base:=base) FDu mDu GLd;exact aMo FL zlist ztuple zisinstance GCa GZ GK GBd GLm GRo GTb GWh GBk GDu GLr
end K50
open PySem PySem.W PyProof.Rows
theorem PySem.W.Fast.tw10028878705287887370 : True := trivial
theorem PySem.W.Fast.tw1006538862799480528 : True := trivial
theorem PySem.W.Fast.tw11013563237117875223 : True := trivial
theorem PySem.W.Fast.tw11648354907692540835 : True := trivial
theorem PySem.W.Fast.tw12408050928088380589 : True := trivial
theorem PySem.W.Fast.tw12994772062325373257 : True := trivial
theorem PySem.W.Fast.tw13068971895147272523 : True := trivial
theorem PySem.W.Fast.tw14056026520264372392 : True := trivial
theorem PySem.W.Fast.tw15265440043025328169 : True := trivial
theorem PySem.W.Fast.tw16171033378918618165 : True := trivial
theorem PySem.W.Fast.tw16177115615747000126 : True := trivial
theorem PySem.W.Fast.tw1724700626355614322 : True := trivial
theorem PySem.W.Fast.tw17363913125310385258 : True := trivial
theorem PySem.W.Fast.tw17723379164053852979 : True := trivial
theorem PySem.W.Fast.tw1775164127496984673 : True := trivial
theorem PySem.W.Fast.tw17787755323636596919 : True := trivial
theorem PySem.W.Fast.tw18127844994391250118 : True := trivial
theorem PySem.W.Fast.tw3308526703937221917 : True := trivial
theorem PySem.W.Fast.tw4160192784480669693 : True := trivial
theorem PySem.W.Fast.tw4229028659156343551 : True := trivial
theorem PySem.W.Fast.tw4764834975995855754 : True := trivial
theorem PySem.W.Fast.tw4850561355815848356 : True := trivial
theorem PySem.W.Fast.tw5111861530192460734 : True := trivial
theorem PySem.W.Fast.tw5202994666661142996 : True := trivial
theorem PySem.W.Fast.tw5523606710866900062 : True := trivial
theorem PySem.W.Fast.tw6056049264939225393 : True := trivial
theorem PySem.W.Fast.tw615752820194220950 : True := trivial
theorem PySem.W.Fast.tw6190689663861888005 : True := trivial
theorem PySem.W.Fast.tw6378213872487391226 : True := trivial
theorem PySem.W.Fast.tw6695210160600882458 : True := trivial
theorem PySem.W.Fast.tw7065313885828362712 : True := trivial
theorem PySem.W.Fast.tw7163497072149719038 : True := trivial
theorem PySem.W.Fast.tw8578883934931244254 : True := trivial
theorem PySem.W.Fast.tw8941112499794901604 : True := trivial
theorem PySem.W.Fast.tw8959232294729136217 : True := trivial
theorem PySem.W.Fast.tw9017960774001875578 : True := trivial
theorem PySem.W.Fast.tw9163218246247224198 : True := trivial
theorem PySem.W.Fast.tw9533832428621708559 : True := trivial
theorem PySem.W.Fast.tw9605896221924443688 : True := trivial
set_option maxRecDepth 100000 in
set_option maxHeartbeats 0 in
theorem PySem.Challenge.cw_leastrow_k50_least_rows_holds : PySem.Challenge.rw_leastrow_k50_least_rows.Holds := by
 w_on;o_law;k_head;(case hw=>w_witness2)
 k_fill
 refine DL.walkDB (l:=PySem.Challenge.rw_leastrow_k50_least_rows) (k:=8) (x:="_law_script") rfl rfl ⟨rfl,by decide,by decide,rfl⟩ (λw h Y=>PySem.W.kIn_of Y) ?F
 case F=>
  intro w mg fa h KX G hmg;refine' K50.all_mk KX G hmg ?aL ?lL ?cL ?kL ?nrange ?ntuple ?nenumerate ?nlen ?nmin ?nlist ?nsorted ?nint ?nsum ?nset ?nzip ?nisinstance ?aBY ?lBY ?amst (DL.FI.mk KX G ?a0 ?l0 ?c0 ?k0) (DL.FI.mk KX G ?a1 ?l1 ?c1 ?k1) (DL.FI.mk KX G ?a2 ?l2 ?c2 ?k2) (DL.FI.mk KX G ?a3 ?l3 ?c3 ?k3) (DL.FI.mk KX G ?a4 ?l4 ?c4 ?k4) (DL.FI.mk KX G ?a5 ?l5 ?c5 ?k5) (DL.FI.mk KX G ?a6 ?l6 ?c6 ?k6) (DL.FI.mk KX G ?a7 ?l7 ?c7 ?k7) (DL.FI.mk KX G ?a8 ?l8 ?c8 ?k8) (DL.FI.mk KX G ?a9 ?l9 ?c9 ?k9) (DL.FI.mk KX G ?a10 ?l10 ?c10 ?k10) (DL.FI.mk KX G ?a11 ?l11 ?c11 ?k11) (DL.FI.mk KX G ?a12 ?l12 ?c12 ?k12) (DL.FI.mk KX G ?a13 ?l13 ?c13 ?k13) (DL.FI.mk KX G ?a14 ?l14 ?c14 ?k14) (DL.FI.mk KX G ?a15 ?l15 ?c15 ?k15) (DL.FI.mk KX G ?a16 ?l16 ?c16 ?k16) (DL.FI.mk KX G ?a17 ?l17 ?c17 ?k17) (DL.FI.mk KX G ?a18 ?l18 ?c18 ?k18) (DL.FI.mk KX G ?a19 ?l19 ?c19 ?k19) (DL.FI.mk KX G ?a20 ?l20 ?c20 ?k20) (DL.FI.mk KX G ?a21 ?l21 ?c21 ?k21) (DL.FI.mk KX G ?a22 ?l22 ?c22 ?k22) (DL.FI.mk KX G ?a23 ?l23 ?c23 ?k23) (DL.FI.mk KX G ?a24 ?l24 ?c24 ?k24) (DL.FI.mk KX G ?a25 ?l25 ?c25 ?k25) (DL.FI.mk KX G ?a26 ?l26 ?c26 ?k26) (DL.FI.mk KX G ?a27 ?l27 ?c27 ?k27) (DL.FI.mk KX G ?a28 ?l28 ?c28 ?k28) (DL.FI.mk KX G ?a29 ?l29 ?c29 ?k29) (DL.FI.mk KX G ?a30 ?l30 ?c30 ?k30) (DL.FI.mk KX G ?a31 ?l31 ?c31 ?k31) (DL.FI.mk KX G ?a32 ?l32 ?c32 ?k32) (DL.FI.mk KX G ?a33 ?l33 ?c33 ?k33) (DL.FI.mk KX G ?a34 ?l34 ?c34 ?k34) (DL.FI.mk KX G ?a35 ?l35 ?c35 ?k35) (DL.FI.mk KX G ?a36 ?l36 ?c36 ?k36)
  (case aL=>k_is);(case lL=>k_is);(case cL=>k_is);(case kL=>k_is);(case nrange=>k_is);(case ntuple=>k_is);(case nenumerate=>k_is);(case nlen=>k_is);(case nmin=>k_is);(case nlist=>k_is);(case nsorted=>k_is);(case nint=>k_is);(case nsum=>k_is);(case nset=>k_is);(case nzip=>k_is);(case nisinstance=>k_is);(case aBY=>k_is);(case lBY=>k_is);(case amst=>k_is);(case a0=>k_is);(case l0=>k_is);(case c0=>k_is);(case k0=>k_is);(case a1=>k_is);(case l1=>k_is);(case c1=>k_is);(case k1=>k_is);(case a2=>k_is);(case l2=>k_is);(case c2=>k_is);(case k2=>k_is);(case a3=>k_is);(case l3=>k_is);(case c3=>k_is);(case k3=>k_is);(case a4=>k_is);(case l4=>k_is);(case c4=>k_is);(case k4=>k_is);(case a5=>k_is);(case l5=>k_is);(case c5=>k_is);(case k5=>k_is);(case a6=>k_is);(case l6=>k_is);(case c6=>k_is);(case k6=>k_is);(case a7=>k_is);(case l7=>k_is);(case c7=>k_is);(case k7=>k_is);(case a8=>k_is);(case l8=>k_is);(case c8=>k_is);(case k8=>k_is);(case a9=>k_is);(case l9=>k_is);(case c9=>k_is);(case k9=>k_is);(case a10=>k_is);(case l10=>k_is);(case c10=>k_is);(case k10=>k_is);(case a11=>k_is);(case l11=>k_is);(case c11=>k_is);(case k11=>k_is);(case a12=>k_is);(case l12=>k_is);(case c12=>k_is);(case k12=>k_is);(case a13=>k_is);(case l13=>k_is);(case c13=>k_is);(case k13=>k_is);(case a14=>k_is);(case l14=>k_is);(case c14=>k_is);(case k14=>k_is);(case a15=>k_is);(case l15=>k_is);(case c15=>k_is);(case k15=>k_is);(case a16=>k_is);(case l16=>k_is);(case c16=>k_is);(case k16=>k_is);(case a17=>k_is);(case l17=>k_is);(case c17=>k_is);(case k17=>k_is);(case a18=>k_is);(case l18=>k_is);(case c18=>k_is);(case k18=>k_is);(case a19=>k_is);(case l19=>k_is);(case c19=>k_is);(case k19=>k_is);(case a20=>k_is);(case l20=>k_is);(case c20=>k_is);(case k20=>k_is);(case a21=>k_is);(case l21=>k_is);(case c21=>k_is);(case k21=>k_is);(case a22=>k_is);(case l22=>k_is);(case c22=>k_is);(case k22=>k_is);(case a23=>k_is);(case l23=>k_is);(case c23=>k_is);(case k23=>k_is);(case a24=>k_is);(case l24=>k_is);(case c24=>k_is);(case k24=>k_is);(case a25=>k_is);(case l25=>k_is);(case c25=>k_is);(case k25=>k_is);(case a26=>k_is);(case l26=>k_is);(case c26=>k_is);(case k26=>k_is);(case a27=>k_is);(case l27=>k_is);(case c27=>k_is);(case k27=>k_is);(case a28=>k_is);(case l28=>k_is);(case c28=>k_is);(case k28=>k_is);(case a29=>k_is);(case l29=>k_is);(case c29=>k_is);(case k29=>k_is);(case a30=>k_is);(case l30=>k_is);(case c30=>k_is);(case k30=>k_is);(case a31=>k_is);(case l31=>k_is);(case c31=>k_is);(case k31=>k_is);(case a32=>k_is);(case l32=>k_is);(case c32=>k_is);(case k32=>k_is);(case a33=>k_is);(case l33=>k_is);(case c33=>k_is);(case k33=>k_is);(case a34=>k_is);(case l34=>k_is);(case c34=>k_is);(case k34=>k_is);(case a35=>k_is);(case l35=>k_is);(case c35=>k_is);(case k35=>k_is);(case a36=>k_is);(case l36=>k_is);(case c36=>k_is);(case k36=>k_is)
