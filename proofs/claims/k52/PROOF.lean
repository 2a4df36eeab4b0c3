import PyProof.Rows.All
import Wide.All
import OpenK.AllK
import Wide.FinOn
import Lean
import PyProof.EqAt
import PyProof.EqKinds
import PyProof.TupleCall
import PySem.Challenge.RW_leastrow_k52_what_shows_none
set_option Elab.async false
set_option linter.all false
set_option maxRecDepth 100000
open PySem renaming wpAny_bind→AA,wpAny_pure→AB,Program→AD,starEach→AF,model→AG,wpAny→AI,World→AL,sizeLine→AN,mainGlobals→AO,cLine→AQ,wpAny_newObj_type→AR,compareOp→AS,behindInMarks→AT,wpAny_holding→AV,FuncData→AW,wpAny_setState_of→AX,wpAny_truthy_bool→Aa,argBest→Ab,wpAny_mono→Ac,wpAny_Call_Name_kw→Ad,wpAny_call_entry→Ae,swapsWith→Ag,sizeLine_eq→Ah,codeAny_builtin→Ai,binaryOp→Aj,wpAny_typeNameOfWhole_keyiter→Ak,wpAny_callSpecial?_slot→Al,wpAny_dictEntries→Am,sysModules→An,bootBuiltins→Ap,tupleKind→Aq,wpAny_passesOwn→Ar,wpAny_pyIter_list→At,backTo→Au,carriedByValue→Av,codeAny_mono→Aw,size_of_entries→Ay,plainId_quiet→Az,wpAny_notOrdered_dict→BA,foldedSetIterable→BB,assignEach→BC,wpAny_askSetting→BE,tupleKind_room_in1→BG
open PyProof.Rows renaming pendingOf→AC,wpS_bind→AE,Keyed→AH,wpS_pure→AJ,arrOf→AK,wpS_forRange→AU,wpS_mono→AY,seqObj→AZ,envOfC→Af,SortKind→Ao,wpS_modify→Ax,setPending→BD,get?_update_seq→BF
open Inhabited renaming default→AM
open List renaming length_map→aA,mem_map→aE,mem_cons_self→aH,mem_cons_of_mem→aI,map_append→aJ,getElem?_eq_some_iff→aK,mem_append_right→aM,mem_singleton→aN,length_append→aQ,map_map→aR,mem_append→aU,size_toArray→aV,mem_cons→aW,map_cons→aZ,getElem?_map→bA,mem_of_getElem?→bD,nodup_append→bK,mem_append_left→bN,range→bO,mem_range→bP,map_congr_left→bQ,length_cons→bU,getD→bX,all_eq_true→bZ,nodup_cons→cC,length_take→cO,mem_map_of_mem→cP,mem_singleton_self→cR,filter_eq_self→cU,append_nil→cY,extract_eq_take_drop→dD,getElem_of_mem→dE,drop_eq_getElem_cons→dJ,pairwise_cons→dR,eraseIdx_eq_take_drop_succ→dW,append_assoc→eA,pairwise_map→eC,mem_flatMap→eI,getElem_mem→eJ,getElem?_eq_getElem→eM,getElem_map→eO,take_length→eQ,getElem?_eq_none→eR,nodup_nil→eV,zip_cons_cons→eW,pairwise_append→eX,mem_filter→eZ,map_nil→fD,lookup_cons→fE,take_of_length_le→fG,take_add_one→fO,length_range→fQ,eq_nil_of_length_eq_zero→fR,take_append_drop→fU,not_mem_nil→gA,getElem?_append_right→gF,getElem?_append_left→gK,any_eq_true→gL,replicate→gS,getElem?_of_mem→gU,length_pos_iff→hX,length_drop→iC,length_nil→iJ,mem_of_mem_take→iK,map_id→iL,find?_eq_none→iZ,perm_append_comm→jH,mem_of_mem_drop→jO,getElem_inj→jS,pairwise_iff_getElem→jV,mem_of_mem_eraseIdx→kG,map_drop→kH,find?_cons→kK,length_zip→kM,pairwise_singleton→kZ,map_take→lW,dropLast_concat_getLast→mH,sum_append→mJ,filterMap_cons→mU,getElem?_zip_eq_some→nM,length→oM,foldl_append→oN,ext_getElem?→oO,nodup_range→pG,perm_middle→pH,getElem?_set_self→pO,eraseIdx_sublist→qN,getElem?_set_ne→qY,filter_sublist→rP,any_cons→tP,set_eq_take_append_cons_drop→uK,filter_congr→uT,ext_getElem→vT,drop_length→vU,find?_eq_some_iff_append→yV,of_mem_zip→yY,nil_append→yZ
open PySem.W renaming Frag→aB,mg_none_of→cW,nsIn→dX,keepIn→eG,kia_one→fW,kitOne→gB,fnOf→gC,codeIn→lA,findIn→mV,mg_of→rA,methodObj→tQ,instObj→vB,lookIn→yX
open PySem.Heap renaming get?_push_of_some→aD,lt_size→aS,get?_push_size→bG,get?_update_other→cI,get?_update_self→fV,size_update→pJ
open Nat renaming le_of_ble_eq_true→aG,le_refl→aP,lt_of_lt_of_le→bE,ne_of_lt→bS,zero_le→bW,lt_of_le_of_lt→cB,le_trans→cJ,le_of_lt→dG,lt_irrefl→dU,lt_or_eq_of_le→eE,lt_succ_self→jW,le_succ→lB,ne_of_gt→lK,pow_le_pow_right→mG,lt_succ_of_lt→oS,lt_trans→pY,pow_succ→pZ,min_self→qA,sub_self→qB,div_div_eq_div_mul→qC,mod_lt→uL,zero_add→uX,succ_pos→uY,lt_or_ge→uZ
open Bool renaming false_eq_true→aX,and_eq_true→bC,false_ne_true→bY,and_eq_true_iff→eY,eq_iff_iff→gI,eq_false_iff→gY,true_and→iM,not_true→jG,false_and→lF,and_false→nD,not_eq_true'→oP,or_eq_true→qD,not_false→qZ
open Option renaming some→cA,map_eq_some_iff→iV
open PySem.SetTable renaming runEnd→cD,bits→cH,below→gM,turns→iA,probe→iN,insertAt→jD,layClean→kO,leap→nE,tooFull→tR
open Int renaming emod_lt_of_pos→cK,emod_nonneg→dM,toNat_natCast→dO,ne_of_gt→lM,toNat→pM,le_refl→zF
open Array renaming length_toList→cM,getElem?_toList→cX,toList_append→dH,toList_extract→eD,perm_iff_toList_perm→iE,toList_push→jI,size_extract→kN,toList_inj→lU,toList_reverse→lX,getElem?_eq_none→pN,mem_toList_iff→qS,toList_map→vA,getElem?_setIfInBounds→yW
open PySem.F renaming args_tuple_add_2→nL,entry_tuple_add→oQ,plainAttrs_list→oR,slot_tuple_add→pE,slot_dict_setdefault→vC,slot_list_append→zN,type_list_append→zO
open List renaming nodup_iff_pairwise_ne→aAA,getElem?_take_of_lt→aBs,drop_of_length_le→aDm,drop_eq_nil_of_le→aDn,set_getElem_self→aDo,length_filter_le→aDp,reverse_reverse→aGk,length_eraseIdx→aGl,take_succ_cons→aGs,getElem?_range→aGt,reverse_append→aGu,flatMap_append→aGv,mem_filterMap→aHX,filter_append→aHY,zip_nil_right→aHZ,getElem_range→aIa,append_of_mem→aIb,any_eq_false→aJn,zip_nil_left→aJo,getElem_take→aJp,cons→aLF,take_left'→aLG,drop_left'→aLH,range_succ→aLI,all_append→aLJ,filter_map→aLK,take_zero→aOl,drop_drop→aOm,all_cons→aOy,sum_cons→aOz,all_map→aQg
open Array renaming getElem?_eq_getElem→aAB,getElem?_replicate→aAF,forIn_toList→aGy,toList→aOC
open PySem.F renaming plainAttrs_dict→aAC,plain_list_iadd→aAD,slot_dict_pop→aBt
open Int renaming fdiv_eq_ediv_of_nonneg→aAE,le_of_eq→aQQ,mul_comm→aQR,zero_add→aQS
open PySem.Heap renaming size_push→aAG,get?_push_ne→aJq
open PySem.W renaming cellsFrom_some→aAH,specialIn→aGp,kitx_list→aGq,kitx_dict→aGr,plainGet→aGz,isFn→aLN
open Nat renaming not_lt→aCz,le_of_eq→aGm,succ_mul→aGn,pow_zero→aGo,mul_le_mul_right→aGw,div_one→aIc,le_of_not_lt→aLL,min_eq_right→aLM,min_eq_left→aOn,add_assoc→aQh
open Bool renaming false_or→aCA,true_or→aDq,beq_eq_decide_eq→aDr,and_self→aOB,or_true→aQj
open Option renaming isSome_map→aGx,getD_none→aId,getD_some→aIe,none→aOA,map→aQi
open PySem.SetTable renaming slot→aJr
open PySem renaming Value→BH,Shared→BI,Addr→BJ,Around→BK,Heap→BL,Obj→BM,Stmt→BN,SetTable→BP
open PyProof.Rows renaming SortSt→BO
namespace L2
open PySem PySem.Spec PyProof.Rows
noncomputable abbrev Key:=Sum Int Str
noncomputable def xC:Key->BH->Bool
 |.inl k,v=>Value.isInt k v
 |.inr x,v=>Value.isStrOf x v
noncomputable def keyH(w:AL):Key->Int
 |.inl k=>hashInt k
 |.inr x=>hashStr w x
theorem hW:∀ {k:Key}{v:BH},xC k v=true->(∃i t,k=Sum.inl i/\v=Value.int i t)\/(∃x t,k=Sum.inr x/\v=Value.str x t)
 |.inl i,v,h=>by obtain⟨t,e⟩:=Value.isInt_shape (k:=i) (v:=v) h;exact .inl ⟨i,t,rfl,e⟩
 |.inr x,v,h=>by obtain⟨t,e⟩:=Value.isStrOf_shape (x:=x) (v:=v) h;exact .inr ⟨x,t,rfl,e⟩
theorem aFA(i:Int)(t:Tok):xC (.inl i) (.int i t)=true:=by simp[xC,Value.isInt]
theorem aFg(x:Str)(t:Tok):xC (.inr x) (.str x t)=true:=by simp[xC,Value.isStrOf]
theorem aNp(a b:Int):decide ((Sum.inl a:Key)=Sum.inl b)=(a==b):=by
 by_cases e:a=b
 ·subst e;simp
 ·have h:¬ (Sum.inl a:Key)=Sum.inl b:=λq=>e (Sum.inl.inj q)
  rw[decide_eq_false h];exact(beq_eq_false_iff_ne.mpr e).symm
theorem aMK(a b:Str):decide ((Sum.inr a:Key)=Sum.inr b)=decide (a=b):=by
 by_cases e:a=b
 ·subst e;simp
 ·have h:¬ (Sum.inr a:Key)=Sum.inr b:=λq=>e (Sum.inr.inj q)
  rw[decide_eq_false h,decide_eq_false e]
theorem aNM(a:Int)(b:Str):decide ((Sum.inl a:Key)=Sum.inr b)=false:=decide_eq_false λq=>nomatch q
theorem aML(a:Str)(b:Int):decide ((Sum.inr a:Key)=Sum.inl b)=false:=decide_eq_false λq=>nomatch q
noncomputable def fJ(prog:AD)(w:AL):PySem.KeyKind prog w Key where
 is:=xC
 hash:=keyH w
 inj:=λv a b ha hb=>by
  rcases hW ha with⟨i,t,rfl,rfl⟩|⟨x,t,rfl,rfl⟩
  ·rcases hW hb with⟨j,u,rfl,e⟩|⟨y,u,rfl,e⟩
   ·injection e with e1 _;rw[e1]
   ·exact nomatch e
  ·rcases hW hb with⟨j,u,rfl,e⟩|⟨y,u,rfl,e⟩
   ·exact nomatch e
   ·injection e with e1 _;rw[e1]
 byValue:=λk v h=>by rcases hW h with⟨i,t,rfl,rfl⟩|⟨x,t,rfl,rfl⟩<;>rfl
 pyHash:=λhv h=>by
  rcases hW hv with⟨i,t,rfl,rfl⟩|⟨x,t,rfl,rfl⟩
  ·exact wpAny_pyHash_int h
  ·exact wpAny_pyHash_str h
 eqBool:=λhu hv h=>by
  rcases hW hu with⟨i,t,rfl,rfl⟩|⟨x,t,rfl,rfl⟩
  ·rcases hW hv with⟨j,u,rfl,rfl⟩|⟨y,u,rfl,rfl⟩
   ·rw[aNp] at h;exact wpAny_eqBool_int h
   ·rw[aNM] at h;exact SeqAt.EqAt.int_str i t y u _ _ _ _ h
  ·rcases hW hv with⟨j,u,rfl,rfl⟩|⟨y,u,rfl,rfl⟩
   ·rw[aML] at h;exact SeqAt.EqAt.str_int x t j u _ _ _ _ h
   ·rw[aMK] at h;exact wpAny_eqBool_str h
 «strs»:=λk x t v h=>by
  rcases hW h with⟨i,u,rfl,e⟩|⟨y,u,rfl,e⟩
  ·exact nomatch e
  ·injection e with e1 _
   subst e1;cases v<;>rfl
theorem aBk(prog:AD)(w:AL)(i:Int)(t:Tok):(fJ prog w).is (.inl i) (.int i t)=true:=aFA i t
theorem aBr(prog:AD)(w:AL)(x:Str)(t:Tok):(fJ prog w).is (.inr x) (.str x t)=true:=aFg x t
inductive V where
 |non|bl (b:Bool)|int (i:Int)|str (x:Str)|byt (b:Array UInt8)|flt (b:UInt64)|ref (a:BJ)|ty (n:String)
 deriving DecidableEq
noncomputable def RelV:V->BH->Prop
 |.non,u=>u=Value.none
 |.bl b,u=>u=Value.bool b
 |.int i,u=>∃t,u=Value.int i t
 |.str x,u=>∃t,u=Value.str x t
 |.byt b,u=>∃t,u=Value.bytes b t
 |.flt b,u=>∃t,u=Value.float b t
 |.ref a,u=>u=Value.ref a
 |.ty n,u=>u=Value.type n
abbrev Vals:List V->List BH->Prop:=Paired RelV
theorem Vals.length{xs:List V}{us:List BH}(r:Vals xs us):xs.length=us.length:=Paired.length r
theorem Vals.get:∀ {xs:List V}{us:List BH}{i:Nat}{x:V},Vals xs us->xs[i]? =some x->∃u,us[i]? =some u/\RelV x u
 |_,_,_,_,.nil,e=>by simp at e
 |_,_,0,_,.cons r _,e=>by simp at e;subst e;exact⟨_,rfl,r⟩
 |_,_,i+1,x,.cons _ t,e=>by obtain⟨u,h1,h2⟩:=Vals.get (i:=i) (x:=x) t (by simpa using e);exact⟨u,by simpa using h1,h2⟩
theorem Vals.append:∀ {xs ys:List V}{us ws:List BH},Vals xs us->Vals ys ws->Vals (xs++ys) (us++ws)
 |_,_,_,_,.nil,s=>s
 |_,_,_,_,.cons r t,s=>.cons r<|Vals.append t s
theorem Vals.take:∀ {xs:List V}{us:List BH} (n:Nat),Vals xs us->Vals (xs.take n) (us.take n)
 |_,_,0,_=>.nil
 |_,_,_+1,.nil=>.nil
 |_,_,n+1,.cons r t=>.cons r<|Vals.take n t
theorem Vals.drop:∀ {xs:List V}{us:List BH} (n:Nat),Vals xs us->Vals (xs.drop n) (us.drop n)
 |_,_,0,r=>r
 |_,_,_+1,.nil=>.nil
 |_,_,n+1,.cons _ t=>Vals.drop n t
noncomputable def RelO:Option V->Option BH->Prop
 |some v,some u=>RelV v u
 |none,none=>True
 |_,_=>False
def KV{κ:Type}:List (κ×V)->List (κ×BH)->Prop:=Paired λ(p:κ×V) (q:κ×BH)=>p.1=q.1/\RelV p.2 q.2
noncomputable def kV:Key->V
 |.inl i=>.int i
 |.inr x=>.str x
inductive HO where
 /-- a list -/
 |lst (xs:List V)
 /-- a tuple (never changes) -/
 |tup (xs:List V)
 /-- a dict whose keys are ints and texts;one whose keys are tuples of ints and texts (the empty one is both) -/
 |dK (kvs:List (Key×V))|dT (kvs:List (List Key×V))
 /-- a set of ints:its members,its size -/
 |set (S:Int->Bool) (n:Nat)
 /-- an instance of the class at C,its dict at dx,its attributes -/
 |ins (C dx:BJ) (fs:List (Str×V))
 /-- the dict of the instance at x -/
 |own (x:BJ)
 /-- the dict of an exception -/
 |xd (fs:List (Str×V))
 /-- a bound method,f of x -/
 |met (f x:BJ)
 /-- a range object lo,lo+1, .. below hi -/
 |rng (lo hi:Int)
 /-- a thing that is known to the object (the script;a dict while a loop walks it):read,never written while it is so -/
 |frz (o:BM) (u:HO)
 /-- a code object's table -/
 |tbl (ps:Array BH)
 /-- any other thing,by what is true of its one object (a def of one's own:SetO a S n:=HO.ext λh=> ..) -/
 |ext (φ:BL->Prop)
noncomputable abbrev Hp:=BJ->Option HO
noncomputable def upd(H:Hp)(a:BJ)(o:HO):Hp:=λb=>if b=a then some o else H b
theorem cG{H:Hp}{a:BJ}{o:HO}:upd H a o a=some o:=by unfold upd;rw[if_pos rfl]
theorem bV{H:Hp}{a b:BJ}{o:HO}(h:b≠a):upd H a o b=H b:=by unfold upd;rw[if_neg h]
theorem cS{H:Hp}{a b:BJ}{o:HO}(h:H a=some o)(h':H b=none):a≠b:=by intro e;subst e;rw[h] at h';cases h'
def IsTupD(h:BL)(a:BJ)(items:Array BH):Prop:=∃o,h.get? a=some o/\o.cls=.type "tuple"/\(∃n,o.data=.seq items n)/\o.dict=none
theorem IsTupD.tup{h:BL}{a:BJ}{items:Array BH}(x:IsTupD h a items):IsTup h a items:=let ⟨o,e,c,d,_⟩:=x;⟨o,e,c,d⟩
theorem IsTupD.new(h:BL)(items:Array BH):IsTupD (h.push {cls:=.type "tuple",data:=.seq items}) h.objs.size items:=⟨_,bG _ rfl,rfl,⟨_,rfl⟩,rfl⟩
variable (P:AD)(w:AL)
noncomputable def ObjOk(H:Hp)(h:BL)(a:BJ):HO->Prop
 |.lst xs=>xs.length<=AN/\∃ (its:List BH) (n:Nat),Vals xs its/\h.get? a=some {cls:=.type "list",data:=.seq its.toArray n}
 |.tup xs=>xs.length<=AN/\∃its:List BH,Vals xs its/\IsTupD h a its.toArray
 |.dK kvs=>kvs.length<=AN/\(a==An)=false/\∃vs,KV kvs vs/\h.DictOf (fJ P w) a vs
 |.dT kvs=>kvs.length<=AN/\(a==An)=false/\∃xs:List (List Key×BJ×BH),
   Paired (λ(p:List Key×V) (q:List Key×BJ×BH)=>p.1=q.1/\H q.2.1=some (.tup<|p.1.map kV)/\RelV p.2 q.2.2) kvs xs/\
   ∃o es ep,h.get? a=some o/\o.ExactDict/\o.data=.dict es ep/\es.toList=xs.map (entryOfKey (Aq<|fJ P w))/\(xs.map (·.1)).Nodup
 |.set S n=>h.SetOf (intKind P w) a S n
 |.ins C dx fs=>H dx=some (.own a)/\fs.length<=1000/\dx≠a/\h.get? a=some (vB C dx)/\
   ∃mA,h.Ns1 dx mA/\(∀f,RelO (fs.lookup f)<|mA f)/\PySem.Within mA (fs.map (·.1))
 |.own _=>∃o,h.get? a=some o
 |.xd fs=>∃mA,h.Ns1 a mA/\∀f,RelO (fs.lookup f)<|mA f
 |.rng lo hi=>∃t u v,h.get? a=some {cls:=.type "range",data:=.fields #[.int lo t,.int hi u,.int 1 v]}
 |.frz o u=>h.get? a=some o/\ObjOk H h a u
 |.tbl ps=>h.get? a=some {cls:=.none,data:=.fields ps}
 |.met f x=>h.get? a=some (tQ (.ref f)<|.ref x)
 |.ext φ=>φ h/\(∃o,h.get? a=some o)/\∀h1 h2:BL,φ h1->(∀o,h1.get? a=some o->h2.get? a=some o)->φ h2
def HOk(H:Hp)(h:BL):Prop:=∀a o,H a=some o->ObjOk P w H h a o
variable {P:AD}{w:AL}{H H':Hp}{h h':BL}{a:BJ}{o:HO}
theorem ObjOk.lt(x:ObjOk P w H h a o):a<h.objs.size:=by
 cases o with
 |lst xs=>obtain⟨_,_,_,_,e⟩:=x;exact aS e
 |tup xs=>obtain⟨_,_,_,p⟩:=x;exact p.tup.lt
 |dK kvs=>obtain⟨_,_,_,_,o,_,_,e,_⟩:=x;exact aS e
 |dT kvs=>obtain⟨_,_,_,_,o,_,_,e,_⟩:=x;exact aS e
 |set S n=>obtain⟨o,_,_,_,e,_⟩:=x;exact aS e
 |ins C dx fs=>obtain⟨_,_,_,e,_⟩:=x;exact aS e
 |own y=>obtain⟨_,e⟩:=x;exact aS e
 |xd fs=>obtain⟨_,⟨_,_,_,e,_⟩,_⟩:=x;exact aS e
 |rng lo hi=>obtain⟨_,_,_,e⟩:=x;exact aS e
 |frz ob u=>obtain⟨e,_⟩:=x;exact aS e
 |tbl ps=>exact aS (show h.get? a=some _ from x)
 |met f y=>exact aS (show h.get? a=some _ from x)
 |ext φ=>obtain⟨_,⟨_,e⟩,_⟩:=x;exact aS e
theorem Paired.mapP{α β:Type}{F G:α->β->Prop}:∀ {l₁:List α}{l₂:List β},Paired F l₁ l₂->(∀a b,F a b->G a b)->Paired G l₁ l₂
 |_,_,.nil,_=>.nil
 |_,_,.cons r t,f=>.cons (f _ _ r)<|Paired.mapP t f
theorem ObjOk.stay(x:ObjOk P w H h a o)(k:∀b u,(b=a\/H b=some (.own a))->h.get? b=some u->h'.get? b=some u)
  (ho:∀b,H b=some (.own a)->H' b=some (.own a)) (ht:∀b xs,H b=some (.tup xs)->H' b=some (.tup xs)):ObjOk P w H' h' a o:=by
 induction o with
 |lst xs=>obtain⟨z,its,n,r,e⟩:=x;exact⟨z,its,n,r,k _ _ (.inl rfl) e⟩
 |tup xs=>obtain⟨z,its,r,ob,e,c⟩:=x;exact⟨z,its,r,ob,k _ _ (.inl rfl) e,c⟩
 |dK kvs=>obtain⟨z,y,vs,r,ob,es,ep,e,c⟩:=x;exact⟨z,y,vs,r,ob,es,ep,k _ _ (.inl rfl) e,c⟩
 |dT kvs=>obtain⟨z,y,xs,r,ob,es,ep,e,c⟩:=x;exact⟨z,y,xs,Paired.mapP r λp q z=>⟨z.1,ht _ _ z.2.1,z.2.2⟩,ob,es,ep,k _ _ (.inl rfl) e,c⟩
 |set S n=>obtain⟨ob,es,ep,t,e,c⟩:=x;exact⟨ob,es,ep,t,k _ _ (.inl rfl) e,c⟩
 |ins C dx fs=>obtain⟨d,z,ne,e,mA,⟨od,es,ep,e2,c⟩,r⟩:=x;exact⟨ho _ d,z,ne,k _ _ (.inl rfl) e,mA,⟨od,es,ep,k _ _ (.inr d) e2,c⟩,r⟩
 |own y=>obtain⟨ob,e⟩:=x;exact⟨ob,k _ _ (.inl rfl) e⟩
 |xd fs=>obtain⟨mA,⟨od,es,ep,e,c⟩,r⟩:=x;exact⟨mA,⟨od,es,ep,k _ _ (.inl rfl) e,c⟩,r⟩
 |rng lo hi=>obtain⟨t,u,v,e⟩:=x;exact⟨t,u,v,k _ _ (.inl rfl) e⟩
 |frz ob u ih=>obtain⟨e,q⟩:=x;exact⟨k _ _ (.inl rfl) e,ih q⟩
 |tbl ps=>have e:h.get? a=some {cls:=.none,data:=.fields ps}:=x;show h'.get? a=some {cls:=.none,data:=.fields ps};exact k a _ (.inl rfl) e
 |met f y=>have e:h.get? a=some (tQ (.ref f)<|.ref y):=x;show h'.get? a=some (tQ (.ref f)<|.ref y);exact k a _ (.inl rfl) e
 |ext φ=>obtain⟨p,⟨o,e⟩,st⟩:=x;exact⟨st _ _ p λo q=>k _ _ (.inl rfl) q,⟨o,k _ _ (.inl rfl) e⟩,st⟩
theorem HOk.lt(x:HOk P w H h)(e:H a=some o):a<h.objs.size:=(x a o e).lt
theorem HOk.fresh(x:HOk P w H h)(e:h.objs.size<=a):H a=none:=by
 cases q:H a with
 |none=>rfl
 |some u=>exact absurd (bE (x.lt q) e)<|dU _
theorem HOk.kept(x:HOk P w H h)(k:∀b u,h.get? b=some u->h'.get? b=some u):HOk P w H h':=λa o e=>(x a o e).stay (λb u _ q=>k b u q) (λ_ q=>q) λ_ _ q=>q
theorem HOk.laid(x:HOk P w H h)(k:∀b u,h.get? b=some u->h'.get? b=some u)(hp:h.objs.size<=a)(new:ObjOk P w (upd H a o) h' a o):HOk P w (upd H a o) h':=λb u e=>by
 have hn:=x.fresh hp
 by_cases hb:b=a
 ·subst hb;rw[cG] at e;cases e;exact new
 ·rw[bV hb] at e;exact(x b u e).stay (λc v _ q=>k c v q) (λc q=>by rw[bV<|cS q hn];exact q) λc xs q=>by rw[bV<|cS q hn];exact q
def Rd(H:Hp)(a:BJ)(u:HO):Prop:=H a=some u\/∃o,H a=some (.frz o u)
theorem Rd.of{u:HO}(h:H a=some u):Rd H a u:=.inl h
theorem Rd.ok{u:HO}(r:Rd H a u)(x:HOk P w H h):ObjOk P w H h a u:=by
 rcases r with r|⟨o,r⟩
 ·exact x a u r
 ·obtain⟨_,q⟩:=x a _ r;exact q
noncomputable def Mut:Option HO->Prop
 |some (.lst _)=>True
 |some (.dK _)=>True
 |some (.dT _)=>True
 |some (.set _ _)=>True
 |some (.ins _ _ _)=>True
 |some (.ext _)=>True
 |_=>False
variable {x e:BJ}{o':HO}
theorem HOk.write(ok:HOk P w H h)(mu:Mut (H x))(he:e=x\/H e=some (.own x))(k:∀b u,b≠e->h.get? b=some u->h'.get? b=some u)(heo:∃u,h'.get? e=some u)
  (new:ObjOk P w (upd H x o') h' x o'):HOk P w (upd H x o') h':=λb u q=>by
 have nown:∀c y,H c=some (.own y)->c≠x:=λc y r z=>by subst z;rw[r] at mu;exact mu
 have ntup:∀c xs,H c=some (.tup xs)->c≠x:=λc xs r z=>by subst z;rw[r] at mu;exact mu
 by_cases hb:b=x
 ·subst hb;rw[cG] at q;cases q;exact new
 ·rw[bV hb] at q
  by_cases hbe:b=e
  ·have q':H b=some (.own x):=by
    rcases he with z|z
    ·exact absurd (hbe.trans z) hb
    ·rw[hbe];exact z
   rw[q] at q';cases q';obtain⟨v,hv⟩:=heo;exact⟨v,by rw[hbe];exact hv⟩
  ·refine(ok b u q).stay (λc v hc r=>k c v ?_ r) (λc r=>by rw[bV<|nown c b r];exact r) λc xs r=>by rw[bV<|ntup c xs r];exact r
   rcases hc with rfl|hc
   ·exact hbe
   ·rintro rfl
    rcases he with z|z
    ·exact nown c b hc z
    ·rw[hc] at z;cases z;exact hb rfl
structure Un(fs ex:List BJ)(H H':Hp)(h h':BL):Prop where
 keep:∀b o,h.get? b=some o->H b=none->b∉fs->b∉ex->h'.get? b=some o
 slot:∀b o,h.get? b=some o->H b=none->b∈fs->b∉ex->∃sl,h'.get? b=some {o with slots:=sl}
 free:∀b o,h.get? b=some o->H b=none->b∉ex->H' b=none
 there:∀b o,h.get? b=some o->b∉ex->∃o',h'.get? b=some o'
 tups:∀b xs,H b=some (.tup xs)->H' b=some (.tup xs)
 frzs:∀b o u,H b=some (.frz o u)->H' b=some (.frz o u)
 tbls:∀b ps,H b=some (.tbl ps)->∃more,H' b=some (.tbl<|ps++more)
section
variable {fs fs' ex ex':List BJ}{H H1 H2:Hp}{h h1 h2 h':BL}{a x e:BJ}{o:HO}
theorem Un.any(u:Un fs ex H H1 h h1){b:BJ}{ob:BM}(q:h.get? b=some ob)(n:H b=none)(hx:b∉ex):∃sl,h1.get? b=some {ob with slots:=sl}:=by
 by_cases hb:b∈fs
 ·exact u.slot b ob q n hb hx
 ·exact⟨ob.slots,u.keep b ob q n hb hx⟩
theorem Un.kept(k:∀b u,h.get? b=some u->h'.get? b=some u):Un fs ex H H h h':=
 ⟨λb ob q _ _ _=>k b ob q,λb ob q _ _ _=>⟨ob.slots,k b ob q⟩,λ_ _ _ n _=>n,λb ob q _=>⟨ob,k b ob q⟩,λ_ _ q=>q,λ_ _ _ q=>q,λ_ ps q=>⟨#[],by rw[q];simp⟩⟩
theorem Un.refl:Un fs ex H H h h:=Un.kept λ_ _ q=>q
theorem Un.laid(k:∀b u,h.get? b=some u->h'.get? b=some u)(hp:h.objs.size<=a)(hn:H a=none):Un fs ex H (upd H a o) h h' where
 keep:=λb u q _ _ _=>k b u q
 slot:=λb u q _ _ _=>⟨u.slots,k b u q⟩
 free:=λb u q n _=>by rw[bV (bS<|bE (aS q) hp)];exact n
 there:=λb u q _=>⟨u,k b u q⟩
 tups:=λb xs q=>by rw[bV<|cS q hn];exact q
 frzs:=λb u xs q=>by rw[bV<|cS q hn];exact q
 tbls:=λb ps q=>⟨#[],by rw[bV<|cS q hn,q];simp⟩
theorem Un.write(mu:Mut (H x))(he:e=x\/H e=some (.own x))(k:∀b u,b≠e->h.get? b=some u->h'.get? b=some u)(heo:∃u,h'.get? e=some u):Un fs ex H (upd H x o) h h':=by
 have hx:∀b,H b=none->b≠x:=λb n z=>by subst z;rw[n] at mu;exact mu
 have hb:∀b,H b=none->b≠e:=λb n z=>by
  subst z
  rcases he with r|r
  ·exact hx b n r
  ·rw[n] at r;cases r
 have hm:∀b u,H b=some u->¬ Mut (some u)->b≠x:=λb u q nm z=>by subst z;rw[q] at mu;exact nm mu
 refine ⟨fun b u q n _ _=>k b u (hb b n) q,fun b u q n _ _=>⟨u.slots,k b u (hb b n) q⟩,fun b u q n _=>by rw [bV (hx b n)]; exact n,fun b u q _=> ?_,
  λb xs q=>by rw[bV (hm b _ q λz=>z)];exact q,λb u xs q=>by rw[bV (hm b _ q λz=>z)];exact q,λb ps q=>⟨#[],by rw[bV (hm b _ q λz=>z),q];simp⟩⟩
 by_cases hbe:b=e
 ·subst hbe;exact heo
 ·exact⟨u,k b u hbe q⟩
end
noncomputable def trk(h:BL)(H:Hp):List BJ:=(bO h.objs.size).filter λa=>(H a).isSome
noncomputable def aGD(h:BL)(H:Hp):BL:=PySem.W.hideAll h<|trk h H
theorem aGg(h:BL)(H:Hp):(aGD h H).objs.size=h.objs.size:=PySem.W.hideAll_size _ _
theorem aHk{b:BJ}{o:BM}(e:h.get? b=some o)(n:H b=none):(aGD h H).get? b=some o:=
 PySem.W.hideAll_get _ e λhm=>by have q:(H b).isSome=true:=(eZ.mp hm).2;rw[n] at q;simp at q
theorem aKI{b:BJ}{o:BM}(e:(aGD h H).get? b=some o):h.get? b=some o/\H b=none:=by
 have e':h.get? b=some o:=PySem.W.of_hideAll (trk h H) e;refine⟨e', ?_⟩;cases q:H b with
 |none=>rfl
 |some x=>have hm:b∈trk h H:=eZ.mpr ⟨bP.mpr<|aS e',by simp[q]⟩;have z:(aGD h H).get? b=none:=PySem.W.hideAll_none (trk h H) hm;rw[z] at e;cases e
noncomputable def aKb(g h:BL)(L:BJ):List (BJ×BM):=(bO h.objs.size).filterMap λa=>if a=L\/(g.get? a).isSome=true then none else(h.get? a).map λo=>(a,o)
noncomputable def rest(g h:BL)(L d:BJ):List (BJ×BM):=(aKb g h L).filter λp=>decide<|p.1≠d
structure Mod(K:aB)(mg:Str->Option BH)(base:BL):Prop where
 kin:K.In base
 glob:base.Ns AO mg
 blt:∃mb,base.Ns builtinsNs mb/\∀x:Str,x≠"__name__"->mb x=Ap x
 nolimit:base.NoLimit
noncomputable def aGC:HO->Prop
 |.lst _=>False
 |.ext _=>False
 |_=>True
structure Cx where
 prog:AD
 w:AL
 K:aB
 mg:Str->Option BH
 base:BL
 A:BK
 N:List Str
 s₀:BI
 H₀:Hp
 env:Env
 outer:List Env
 stack:List Env
 ex:List BJ
 fn:Str->Bool
 calm:Bool
 pn:List (BJ×BM)
 xe:BH->BI->Prop
 B₀:Hp:=H₀
 hB:∀b o,H₀ b=some o->aGC o->B₀ b=some o:=by intro b o e _;exact e
noncomputable def frs(l:List Env):List BJ:=l.filterMap (·.frame)
noncomputable abbrev Cx.fs(X:Cx):List BJ:=frs X.outer
def Vis(sc:Scope)(x:Str):Prop:=sc.names.lookup x=some .local\/sc.names.lookup x=some .cell\/sc.names.lookup x=some .free
def Loc(sc:Scope)(x:Str):Prop:=sc.names.lookup x=some .local\/sc.names.lookup x=some .cell
def Look(env:Env)(h:BL)(m:Str->Option BH)(x:Str)(u:BH):Prop:=
 (env.kindOf x=some .local/\m x=some u)\/((env.kindOf x=some .cell\/env.kindOf x=some .free)/\∃c,env.cells.lookup x=some c/\h.IsCell c (some u))
structure Cx.Ok(X:Cx):Prop where
 mod:Mod X.K X.mg X.base
 kind:X.env.scope.kind=.function
 glob:X.env.globals=AO
 blt:X.env.builtins=builtinsNs
 above:X.s₀.heap.objs.size<=X.env.locals
 inj:∀x y c,X.env.cells.lookup x=some c->X.env.cells.lookup y=some c->x=y
 has:∀x,(X.env.kindOf x=some .cell\/X.env.kindOf x=some .free)->∃c,X.env.cells.lookup x=some c
 cab:∀x c,X.fn x=true->X.env.cells.lookup x=some c->X.s₀.heap.objs.size<=c
 hd:X.calm=true->X.A.handled=none
 frames:X.A.frames=some X.stack
 stk:X.stack=X.outer\/(X.stack=X.env::X.outer/\X.env.frame=some X.env.locals)
 exf:∀b∈X.ex,b≠X.env.locals/\∀x c,X.env.cells.lookup x=some c->c≠b
 bs:∀b o,X.base.get? b=some o->X.s₀.heap.get? b=some o/\X.H₀ b=none
 bsz:X.base.objs.size<=X.s₀.heap.objs.size
 noex:∀b o,X.base.get? b=some o->b∉X.ex
 exfs:∀b∈X.ex,b∉X.fs
 funs:X.s₀.heap.FunFrames X.base X.outer
 frf:∀b∈X.fs,X.H₀ b=none
structure Inv(X:Cx)(pins:List (BJ×BM))(σ:List (Option V))(H:Hp)(s:BI):Prop where
 ok:X.Ok
 os:s.os=X.s₀.os
 bare:AllBare s.gens
 base:Un X.fs X.ex X.H₀ H X.s₀.heap s.heap
 loc:∃m,s.heap.Ns X.env.locals m/\∀ (i:Nat) (x:Str) (v:V),X.N[i]? =some x->σ[i]? =some (some v)->Vis X.env.scope x->∃u,RelV v u/\Look X.env s.heap m x u
 cell:∀x c,X.env.cells.lookup x=some c->∃v,s.heap.IsCell c v
 free:H X.env.locals=none
 freeC:∀x c,X.env.cells.lookup x=some c->H c=none
 pin:∀p∈X.pn++pins,s.heap.get? p.1=some p.2/\H p.1=none/\p.1≠X.env.locals/\p.1∉X.fs/\∀v,p.2.data≠ .cell v
 hok:HOk X.prog X.w H s.heap
 len:σ.length=X.N.length
variable {X:Cx}{pins:List (BJ×BM)}{σ:List (Option V)}{s:BI}
theorem Cx.Ok.nofr(ok:X.Ok){b:BJ}{o:BM}(e:X.base.get? b=some o):b∉X.fs:=λhb=>by have:=(ok.funs.mem hb).1;rw[e] at this;cases this
theorem Inv.bs(I:Inv X pins σ H s):∀b o,X.base.get? b=some o->s.heap.get? b=some o/\H b=none:=λb o e=>⟨I.base.keep b o (I.ok.bs b o e).1 (I.ok.bs b o e).2 (I.ok.nofr e)<|I.ok.noex b o e,I.base.free b o (I.ok.bs b o e).1 (I.ok.bs b o e).2<|I.ok.noex b o e⟩
theorem Inv.bk(I:Inv X pins σ H s):∀b o,X.base.get? b=some o->s.heap.get? b=some o:=λb o e=>(I.bs b o e).1
theorem Inv.mod(I:Inv X pins σ H s):Mod X.K X.mg X.base:=I.ok.mod
theorem Inv.kIn(I:Inv X pins σ H s):X.K.In s.heap:=I.ok.mod.kin.keeps I.bk
theorem Inv.lt(I:Inv X pins σ H s):X.env.locals<s.heap.objs.size:=let ⟨_,hn,_⟩:=I.loc;hn.lt
theorem Inv.sz(I:Inv X pins σ H s):X.s₀.heap.objs.size<=s.heap.objs.size:=cJ I.ok.above<|dG I.lt
theorem Inv.nofs(I:Inv X pins σ H s)(h:s.heap.objs.size<=a):a∉X.fs:=λhb=>by obtain⟨_,o,ho,_⟩:=I.ok.funs.mem hb;exact absurd (bE (aS ho)<|cJ I.sz h)<|dU _
theorem Inv.cne(I:Inv X pins σ H s):∀x c,X.env.cells.lookup x=some c->c≠X.env.locals:=λx c e z=>by obtain⟨v,o,ho,hd⟩:=I.cell x c e;obtain⟨m,⟨o',es,ep,ho',hd',_⟩,_⟩:=I.loc;rw[z,ho'] at ho;cases ho;rw[hd'] at hd;cases hd
theorem Inv.funs(I:Inv X pins σ H s):s.heap.FunFrames X.base X.outer:=by
 have all:∀ (l:List Env),(∀b∈frs l,b∈X.fs)->X.s₀.heap.FunFrames X.base l->s.heap.FunFrames X.base l:=by
  intro l
  induction l with
  |nil=>intro _ _;trivial
  |cons env r ih=>
   intro hs hl;obtain⟨hk,⟨L,o,hf,hn,ho,hd⟩,hr⟩:=hl;have hL:L∈X.fs:=hs L (by unfold frs;rw[mU,hf];exact aH);obtain⟨sl,e⟩:=I.base.slot L o ho (I.ok.frf L hL) hL λz=>I.ok.exfs L z hL
   exact⟨hk,⟨L,_,hf,hn,e,hd⟩,ih (λb hb=>hs b<|by unfold frs;rw[mU,hf];exact aI _ hb) hr⟩
 exact all X.outer (λ_ hb=>hb) I.ok.funs
theorem Inv.stack(I:Inv X pins σ H s):s.heap.FunFrames X.base X.stack:=by
 rcases I.ok.stk with e|⟨e,hf⟩
 ·rw[e];exact I.funs
 ·rw[e];obtain⟨m,hn,_⟩:=I.loc;refine .cons (by rw[I.ok.kind];decide) hf hn ?_ I.funs;exact Heap.get?_none_of_le<|cJ I.ok.bsz I.ok.above
theorem Inv.stkSub(I:Inv X pins σ H s):∀b∈frs X.stack,b∈X.env.locals::X.fs:=λb hb=>by
 rcases I.ok.stk with e|⟨e,hf⟩
 ·rw[e] at hb;exact aI _ hb
 ·rw[e] at hb;unfold frs at hb;rw[mU,hf] at hb;exact hb
theorem Inv.stkFree(I:Inv X pins σ H s):∀b∈frs X.stack,H b=none:=λb hb=>by
 rcases aW.mp (I.stkSub b hb) with e|hb
 ·rw[e];exact I.free
 ·obtain⟨_,o,ho,_⟩:=I.ok.funs.mem hb;exact I.base.free b o ho (I.ok.frf b hb) λz=>I.ok.exfs b z hb
theorem Inv.step{g':Array GenState}{t':Nat}{d':Drawn}{ch:List BJ}(I:Inv X pins σ H s)
  (hch:∀b∈ch,(b∈X.ex\/X.s₀.heap.objs.size<=b)/\b≠X.env.locals/\(∀x c,X.env.cells.lookup x=some c->c≠b)/\∀p∈X.pn++pins,p.1≠b)
  (keep:∀b o,b≠X.env.locals->b∉X.fs->b∉ch->s.heap.get? b=some o->H b=none->h'.get? b=some o)
  (slot:∀b o,b≠X.env.locals->b∈X.fs->b∉ch->s.heap.get? b=some o->H b=none->∃sl,h'.get? b=some {o with slots:=sl}) (free:∀b o,b∉ch->s.heap.get? b=some o->H b=none->H' b=none)
  (there:∀b o,b∉ch->s.heap.get? b=some o->∃o',h'.get? b=some o')
  (tups:∀b xs,H b=some (.tup xs)->H' b=some (.tup xs)) (frzs:∀b o u,H b=some (.frz o u)->H' b=some (.frz o u)) (tbls:∀b ps,H b=some (.tbl ps)->∃more,H' b=some (.tbl<|ps++more))
  (ns:∀m,s.heap.Ns X.env.locals m->h'.Ns X.env.locals m) (hok:HOk X.prog X.w H' h') (hg:AllBare g'):
  Inv X pins σ H' {s with heap:=h',gens:=g',drawn:=d',toks:=t'}:=by
 have neL:∀b o,X.s₀.heap.get? b=some o->b≠X.env.locals:=λb o e=>bS<|bE (aS e) I.ok.above
 have neC:∀b o,X.s₀.heap.get? b=some o->b∉X.ex->b∉ch:=λb o e hx hb=>by
  rcases(hch b hb).1 with z|z
  ·exact hx z
  ·exact absurd (bE (aS e) z)<|dU _
 have cellK:∀x c,X.env.cells.lookup x=some c->∀v,s.heap.IsCell c v->h'.IsCell c v:=λx c e v ⟨o,ho,hd⟩=>by
  have nch:c∉ch:=λz=>(hch c z).2.2.1 x c e rfl
  by_cases hc:c∈X.fs
  ·obtain⟨sl,q⟩:=slot c o (I.cne x c e) hc nch ho<|I.freeC x c e;exact⟨_,q,hd⟩
  ·exact⟨o,keep c o (I.cne x c e) hc nch ho<|I.freeC x c e,hd⟩
 refine⟨I.ok,I.os,hg,⟨λb o e n hb hx=> ?_,λb o e n hb hx=> ?_,λb o e n hx=> ?_,λb o e hx=> ?_,λb xs e=>tups b xs<|I.base.tups b xs e,λb o xs e=>frzs b o xs<|I.base.frzs b o xs e,λb ps e=> ?_⟩, ?_,λx c e=> ?_, ?_,λx c e=> ?_,λp hp=> ?_,hok,I.len⟩
 ·exact keep b o (neL b o e) hb (neC b o e hx) (I.base.keep b o e n hb hx)<|I.base.free b o e n hx
 ·obtain⟨sl,e1⟩:=I.base.slot b o e n hb hx;obtain⟨sl',e2⟩:=slot b _ (neL b o e) hb (neC b o e hx) e1<|I.base.free b o e n hx;exact⟨sl',e2⟩
 ·obtain⟨o',e1⟩:=I.base.there b o e hx;exact free b o' (neC b o e hx) e1<|I.base.free b o e n hx
 ·obtain⟨o',e1⟩:=I.base.there b o e hx;exact there b o' (neC b o e hx) e1
 ·obtain⟨m1,e1⟩:=I.base.tbls b ps e;obtain⟨m2,e2⟩:=tbls b _ e1;exact⟨m1++m2,by rw[e2,Array.append_assoc]⟩
 ·obtain⟨m,hn,hl⟩:=I.loc;refine⟨m,ns m hn,λi x v e1 e2 e3=> ?_⟩;obtain⟨u,r,l⟩:=hl i x v e1 e2 e3;refine⟨u,r, ?_⟩
  rcases l with l|⟨k,c,e,z⟩
  ·exact .inl l
  ·exact .inr ⟨k,c,e,cellK x c e _ z⟩
 ·obtain⟨v,z⟩:=I.cell x c e;exact⟨v,cellK x c e v z⟩
 ·obtain⟨m,⟨o,_,_,ho,_⟩,_⟩:=I.loc;exact free _ o (λz=>(hch _ z).2.1 rfl) ho I.free
 ·obtain⟨v,o,ho,hd⟩:=I.cell x c e;exact free c o (λz=>(hch c z).2.2.1 x c e rfl) ho<|I.freeC x c e
 ·obtain⟨e,n,ne,nf,d⟩:=I.pin p hp;have nch:p.1∉ch:=λz=>(hch p.1 z).2.2.2 p hp rfl
  exact⟨keep p.1 p.2 ne nf nch e n,free p.1 p.2 nch e n,ne,nf,d⟩
theorem Inv.un{t':Nat}(I:Inv X pins σ H s)(u:Un X.fs [] H H' s.heap h')(hok:HOk X.prog X.w H' h'):Inv X pins σ H' {s with heap:=h',toks:=t'}:=by
 obtain⟨m,⟨o,es,ep,ho,r⟩,_⟩:=id I.loc;obtain⟨sl,hL⟩:=u.any ho I.free<|by simp
 exact I.step (g':=s.gens) (d':=s.drawn) (ch:=[]) (fun _ z=>nomatch z) (fun b o _ hb _ e n=>u.keep b o e n hb (by simp)) (fun b o _ hb _ e n=>u.slot b o e n hb (by simp)) (fun b o _ e n=>u.free b o e n (by simp)) (fun b o _ e=>u.there b o e (by simp)) u.tups u.frzs u.tbls (fun m' hm=>by
  obtain⟨o',es',ep',ho',r'⟩:=hm;rw[ho] at ho';cases ho'
  exact⟨_,es',ep',hL,r'⟩) hok I.bare
theorem Inv.call{g':Array GenState}{t':Nat}{d':Drawn}{ch:List BJ}(I:Inv X pins σ H s)(u:Un (frs X.stack) ch H H' s.heap h')(hok:HOk X.prog X.w H' h')(hg:AllBare g')
  (hch:∀b∈ch,(b∈X.ex\/X.s₀.heap.objs.size<=b)/\b≠X.env.locals/\(∀x c,X.env.cells.lookup x=some c->c≠b)/\∀p∈X.pn++pins,p.1≠b):
  Inv X pins σ H' {s with heap:=h',gens:=g',drawn:=d',toks:=t'}:=by
 obtain⟨m,⟨o,es,ep,ho,r⟩,_⟩:=id I.loc;obtain⟨sl,hL⟩:=u.any ho I.free λz=>(hch _ z).2.1 rfl
 exact I.step (ch:=ch) hch (fun b o hL hb hc e n=>u.keep b o e n (fun z=>(aW.mp (I.stkSub b z)).elim hL hb) hc) (fun b o _ _ hc e n=>u.any e n hc) (fun b o hc e n=>u.free b o e n hc) (fun b o hc e=>u.there b o e hc) u.tups u.frzs u.tbls (fun m' hm=>by
  obtain⟨o',es',ep',ho',r'⟩:=hm;rw[ho] at ho';cases ho'
  exact⟨_,es',ep',hL,r'⟩) hok hg
theorem Inv.turned{t':Nat}{it:BJ}(I:Inv X pins σ H s)(k:∀b o,b≠it->s.heap.get? b=some o->h'.get? b=some o)(hn:H it=none)(hL:it≠X.env.locals)
  (h1:it∈X.ex\/X.s₀.heap.objs.size<=it) (h2:∀x c,X.env.cells.lookup x=some c->c≠it) (h3:∀p∈X.pn++pins,p.1≠it):Inv X pins σ H {s with heap:=h',toks:=t'}:=by
 have nit:∀b u,H b=some u->b≠it:=λb u e z=>by rw[z,hn] at e;cases e
 refine I.step (g':=s.gens) (d':=s.drawn) (ch:=[it]) (λb hb=> ?_) (λb o _ _ hc e _=>k b o (λz=>hc<|by simp[z]) e) (λb o _ _ hc e _=>⟨o.slots,k b o (λz=>hc<|by simp[z]) e⟩) (λ_ _ _ _ n=>n)
  (λb o hc e=>⟨o,k b o (λz=>hc<|by simp[z]) e⟩) (λ_ _ e=>e) (λ_ _ _ e=>e) (λb ps e=>⟨#[],by rw[e];simp⟩) (λm hm=> ?_) (λb u e=> ?_) I.bare
 ·have e:b=it:=by simpa using hb
  subst e;exact⟨h1,hL,h2,h3⟩
 ·obtain⟨o,es,ep,ho,r⟩:=hm;exact⟨o,es,ep,k _ o (Ne.symm hL) ho,r⟩
 ·refine(I.hok b u e).stay (λc v hc q=>k c v ?_ q) (λ_ q=>q) λ_ _ q=>q
  rcases hc with z|z
  ·rw[z];exact nit b u e
  ·exact nit c _ z
theorem Inv.tok(I:Inv X pins σ H s)(t:Nat):Inv X pins σ H {s with toks:=t}:=I.un (h':=s.heap) (t':=t) Un.refl I.hok
theorem Inv.kept{t':Nat}(I:Inv X pins σ H s)(k:∀b u,s.heap.get? b=some u->h'.get? b=some u):Inv X pins σ H {s with heap:=h',toks:=t'}:=I.un (Un.kept k)<|I.hok.kept k
theorem Inv.laid{t':Nat}(I:Inv X pins σ H s)(k:∀b u,s.heap.get? b=some u->h'.get? b=some u)(hp:s.heap.objs.size<=a)(new:ObjOk X.prog X.w (upd H a o) h' a o):
  Inv X pins σ (upd H a o) {s with heap:=h',toks:=t'}:=I.un (Un.laid k hp<|I.hok.fresh hp)<|I.hok.laid k hp new
theorem Inv.write{t':Nat}(I:Inv X pins σ H s)(mu:Mut (H x))(he:e=x\/H e=some (.own x))(k:∀b u,b≠e->s.heap.get? b=some u->h'.get? b=some u)(heo:∃u,h'.get? e=some u)
  (new:ObjOk X.prog X.w (upd H x o) h' x o):Inv X pins σ (upd H x o) {s with heap:=h',toks:=t'}:=I.un (Un.write mu he k heo)<|I.hok.write mu he k heo new
theorem Inv.pins_of{pins':List (BJ×BM)}(I:Inv X pins σ H s)(h:∀p∈pins',s.heap.get? p.1=some p.2/\H p.1=none/\p.1≠X.env.locals/\p.1∉X.fs/\∀v,p.2.data≠ .cell v):Inv X pins' σ H s:=
 ⟨I.ok,I.os,I.bare,I.base,I.loc,I.cell,I.free,I.freeC,λp hp=>(aU.mp hp).elim (λz=>I.pin p<|bN _ z)<|h p,I.hok,I.len⟩
theorem aCm{N:List Str}(hN:N.Nodup){i j:Nat}{x:Str}(a:N[i]? =some x)(b:N[j]? =some x):i=j:=by obtain⟨h1,e1⟩:=aK.mp a;obtain⟨h2,e2⟩:=aK.mp b;exact(jS hN).mp<|e1.trans e2.symm
theorem aFx{M:Model}{A:BK}{E:BH->BI->Prop}{i:Nat}{x:Str}{v:V}{u:BH}{Q:Unit->BI->Prop}(I:Inv X pins σ H s)(hN:X.N.Nodup)(hi:X.N[i]? =some x)(hx:Loc X.env.scope x)(r:RelV v u)
  (h:∀s',Inv X pins (σ.set i (some v)) H s'->(∃a,Heap.SameBut a s.heap s'.heap/\(a=X.env.locals\/X.env.cells.lookup x=some a))->Q () s') (hf:X.fn x=true\/X.env.scope.names.lookup x=some .local:=by first|exact .inl rfl|exact .inr rfl|assumption):AI M A (storeName X.env x u) Q E s:=by
 obtain⟨m,hn,hl⟩:=id I.loc;have hcls:(X.env.scope.kind==.class||(X.env.scope.kind==.module&&X.env.locals !=X.env.globals))=false:=by rw[I.ok.kind];rfl
 have hiσ:i<σ.length:=by rw[I.len];exact(aK.mp hi).1
 have cne:=I.cne
 have tracked:∀ {a:BJ}{h':BL},(∃o,s.heap.get? a=some o/\H a=none)->Heap.SameBut a s.heap h'->HOk X.prog X.w H h':=λ{a h'} ha hs b ob e=>by
  obtain⟨_,_,hfree⟩:=ha;refine(I.hok b ob e).stay (λc w' hc q=>(hs.2 c ?_).trans q) (λ_ q=>q) λ_ _ q=>q
  rintro rfl
  rcases hc with rfl|hc
  ·rw[hfree] at e;cases e
  ·rw[hfree] at hc;cases hc
 rcases hx with hk|hk
 ·refine wpAny_storeName_local hk hn (λh' hn' hs=> ?_) hcls;obtain⟨oL,_,_,hoL,_⟩:=id hn;refine h _ ⟨I.ok,I.os,I.bare,⟨λb o e n hb hx=> ?_,λb o e n hb hx=> ?_,I.base.free,λb o e hx=> ?_,I.base.tups,I.base.frzs,I.base.tbls⟩,⟨_,hn',λj y v' e1 e2 e3=> ?_⟩,λy c e=> ?_,I.free,I.freeC,λp hp=> ?_,tracked ⟨oL,hoL,I.free⟩ hs,by simpa using I.len⟩ ⟨_,hs,.inl rfl⟩
  ·exact(hs.2 b (bS<|bE (aS e) I.ok.above)).trans<|I.base.keep b o e n hb hx
  ·obtain⟨sl,e1⟩:=I.base.slot b o e n hb hx;exact⟨sl,(hs.2 b (bS<|bE (aS e) I.ok.above)).trans e1⟩
  ·obtain⟨o',e1⟩:=I.base.there b o e hx;exact⟨o',(hs.2 b (bS<|bE (aS e) I.ok.above)).trans e1⟩
  ·by_cases hj:j=i
   ·subst hj;rw[hi] at e1;cases e1;rw[pO hiσ] at e2;cases e2;exact⟨u,r,.inl ⟨hk,by simp⟩⟩
   ·rw[qY<|Ne.symm hj] at e2;obtain⟨u',r',q⟩:=hl j y v' e1 e2 e3;refine⟨u',r', ?_⟩
    rcases q with⟨k,e⟩|⟨k,c,e,z⟩
    ·refine .inl ⟨k, ?_⟩;have:y≠x:=λe=>hj (aCm hN e1<|e▸hi)
     simp[this,e]
    ·exact .inr ⟨k,c,e,z.sameBut hs<|cne y c e⟩
  ·obtain⟨w',z⟩:=I.cell y c e;exact⟨w',z.sameBut hs<|cne y c e⟩
  ·obtain⟨e,n,ne,nf,d⟩:=I.pin p hp;exact⟨(hs.2 p.1 ne).trans e,n,ne,nf,d⟩
 ·have hfn:X.fn x=true:=by
   rcases hf with z|z
   ·exact z
   ·rw[z] at hk;cases hk
  obtain⟨c,hc⟩:=I.ok.has x<|.inl hk;obtain⟨w',z⟩:=I.cell x c hc;refine wpAny_storeName_cell I.ok.kind hk hc z λh' hc' hs=> ?_;obtain⟨oc,hoc,hocd⟩:=id z;refine h {s with heap:=h'} ⟨I.ok,I.os,I.bare,⟨λb o e n hb hx=> ?_,λb o e n hb hx=> ?_,I.base.free,λb o e hx=> ?_,I.base.tups,I.base.frzs,I.base.tbls⟩,⟨m,hn.sameBut hs (Ne.symm<|cne x c hc),λj y v' e1 e2 e3=> ?_⟩,λy c' e=> ?_,I.free,I.freeC,λp hp=> ?_,tracked ⟨oc,hoc,I.freeC x c hc⟩ hs,by simpa using I.len⟩ ⟨c,hs,.inr hc⟩
  ·exact(hs.2 b<|bS (bE (aS e)<|I.ok.cab x c hfn hc)).trans<|I.base.keep b o e n hb hx
  ·obtain⟨sl,e1⟩:=I.base.slot b o e n hb hx;exact⟨sl,(hs.2 b<|bS (bE (aS e)<|I.ok.cab x c hfn hc)).trans e1⟩
  ·obtain⟨o',e1⟩:=I.base.there b o e hx;exact⟨o',(hs.2 b<|bS (bE (aS e)<|I.ok.cab x c hfn hc)).trans e1⟩
  ·by_cases hj:j=i
   ·subst hj;rw[hi] at e1;cases e1;rw[pO hiσ] at e2;cases e2;exact⟨u,r,.inr ⟨.inl hk,c,hc,hc'⟩⟩
   ·rw[qY<|Ne.symm hj] at e2;obtain⟨u',r',q⟩:=hl j y v' e1 e2 e3;refine⟨u',r', ?_⟩
    rcases q with q|⟨k,c',e,z'⟩
    ·exact .inl q
    ·refine .inr ⟨k,c',e,z'.sameBut hs ?_⟩;rintro rfl;exact hj (aCm hN e1<|I.ok.inj _ _ _ e hc▸hi)
  ·by_cases hcc:c'=c
   ·subst hcc;exact⟨_,hc'⟩
   ·obtain⟨w2,z2⟩:=I.cell y c' e;exact⟨w2,z2.sameBut hs hcc⟩
  ·obtain⟨e,n,ne,nf,d⟩:=I.pin p hp;refine⟨(hs.2 p.1 ?_).trans e,n,ne,nf,d⟩;intro q;rw[q,hoc] at e;have q':oc=p.2:=cA.inj e;exact d w' (by rw[<-q'];exact hocd)
theorem yH{M:Model}{A:BK}{E:BH->BI->Prop}{i:Nat}{x:Str}{v:V}{u:BH}{Q:Unit->BI->Prop}(I:Inv X pins σ H s)(hN:X.N.Nodup)(hi:X.N[i]? =some x)(hx:Loc X.env.scope x)(r:RelV v u)
  (h:∀s',Inv X pins (σ.set i (some v)) H s'->Q () s') (hf:X.fn x=true\/X.env.scope.names.lookup x=some .local:=by first|exact .inl rfl|exact .inr rfl|assumption):AI M A (storeName X.env x u) Q E s:=
 aFx I hN hi hx r (λs' I' _=>h s' I') hf
theorem Inv.call'{s':BI}{ch:List BJ}(I:Inv X pins σ H s)(ho:s'.os=s.os)(u:Un (frs X.stack) ch H H' s.heap s'.heap)(hok:HOk X.prog X.w H' s'.heap)(hg:AllBare s'.gens)
  (hch:∀b∈ch,(b∈X.ex\/X.s₀.heap.objs.size<=b)/\b≠X.env.locals/\(∀x c,X.env.cells.lookup x=some c->c≠b)/\∀p∈X.pn++pins,p.1≠b):Inv X pins σ H' s':=by
 obtain⟨h',g',d',t',o'⟩:=s';have e:o'=s.os:=ho;subst e;exact I.call (g':=g') (t':=t') (d':=d') u hok hg hch
noncomputable abbrev XK:=BH->Option BJ->Hp->Prop
noncomputable abbrev St:=List<|Option V
noncomputable abbrev VK:=V->Hp->Prop
noncomputable abbrev TE:=St->Hp->VK->Prop
noncomputable abbrev TT:=St->Hp->(Bool->Hp->Prop)->Prop
noncomputable abbrev TA:=St->Hp->(List V->Hp->Prop)->Prop
structure uU where
 nx:St->Hp->Prop
 rt:VK
 bk:St->Hp->Prop:=λ_ _=>False
 ct:St->Hp->Prop:=λ_ _=>False
noncomputable abbrev TS:=uU->St->Hp->Prop
def EP(X:Cx)(pins:List (BJ×BM))(σ:St)(Q:VK)(u:BH)(s':BI):Prop:=∃v H',Inv X pins σ H' s'/\RelV v u/\Q v H'
def TP(X:Cx)(pins:List (BJ×BM))(σ:St)(Q:Bool->Hp->Prop)(b:Bool)(s':BI):Prop:=∃H',Inv X pins σ H' s'/\Q b H'
def AP(X:Cx)(pins:List (BJ×BM))(σ:St)(Q:List V->Hp->Prop)(us:List BH)(s':BI):Prop:=∃vs H',Inv X pins σ H' s'/\Vals vs us/\Q vs H'
def SP(X:Cx)(pins:List (BJ×BM))(D:uU)(f:Flow)(s':BI):Prop:=
 match f with
 |.next=>∃σ' H',Inv X pins σ' H' s'/\D.nx σ' H'
 |.brk=>∃σ' H',Inv X pins σ' H' s'/\D.bk σ' H'
 |.cont=>∃σ' H',Inv X pins σ' H' s'/\D.ct σ' H'
 |.ret u=>∃v σ' H',Inv X pins σ' H' s'/\RelV v u/\D.rt v H'
def PE(X:Cx)(e:Expr)(t:TE):Prop:=
 ∀ (pins:List (BJ×BM)) (s:BI) (σ:St) (H:Hp) (Q:VK),Inv X pins σ H s->t σ H Q->AI (AG X.prog X.w) X.A (eval e X.env) (EP X pins σ Q) X.xe s
def PT(X:Cx)(e:Expr)(t:TT):Prop:=
 ∀ (pins:List (BJ×BM)) (s:BI) (σ:St) (H:Hp) (Q:Bool->Hp->Prop),Inv X pins σ H s->t σ H Q->AI (AG X.prog X.w) X.A (isTrue e X.env<|eval e X.env) (TP X pins σ Q) X.xe s
def PW(X:Cx)(e:Expr)(t:TT):Prop:=
 ∀ (whole:Sem BH) (pins:List (BJ×BM)) (s:BI) (σ:St) (H:Hp) (Q:Bool->Hp->Prop),Inv X pins σ H s->t σ H Q->AI (AG X.prog X.w) X.A (isTrue e X.env whole) (TP X pins σ Q) X.xe s
theorem PW.pt{e:Expr}{t:TT}(h:PW X e t):PT X e t:=h _
def PA(X:Cx)(es:List Expr)(t:TA):Prop:=
 ∀ (pos:Pos) (pins:List (BJ×BM)) (s:BI) (σ:St) (H:Hp) (Q:List V->Hp->Prop),Inv X pins σ H s->t σ H Q->AI (AG X.prog X.w) X.A (spliced (Au pos<|AF es X.env)) (AP X pins σ Q) X.xe s
def PS(X:Cx)(st:BN)(t:TS):Prop:=
 ∀ (pins:List (BJ×BM)) (s:BI) (σ:St) (H:Hp) (D:uU),Inv X pins σ H s->t D σ H->AI (AG X.prog X.w) X.A (exec st X.env) (SP X pins D) X.xe s
def PSs(X:Cx)(st:List BN)(t:TS):Prop:=
 ∀ (pins:List (BJ×BM)) (s:BI) (σ:St) (H:Hp) (D:uU),Inv X pins σ H s->t D σ H->AI (AG X.prog X.w) X.A (execs st X.env) (SP X pins D) X.xe s
theorem thn{α:Type}{t:Sem α}{Q Q':α->BI->Prop}{M:Model}{A:BK}{E:BH->BI->Prop}(h:AI M A t Q E s)(hQ:∀a s,Q a s->Q' a s):AI M A t Q' E s:=Ac h hQ λ_ _ x=>x
noncomputable def mW(i:Nat):TE:=λσ H Q=>∃v,σ[i]? =some (some v)/\Q v H
noncomputable def tC(v:V):TE:=λ_ H Q=>Q v H
theorem aMS{i:Nat}{x:Str}{pos:Pos}(hN:X.N[i]? =some x)(hv:Vis X.env.scope x)(hd:(x==("__debug__":Str))=false:=by decide)(hcd:(x==("__classdict__":Str))=false:=by decide):PE X (.Name x pos) (mW i):=by
 intro pins s σ H Q I h;obtain⟨v,e,h⟩:=h;obtain⟨m,hn,hl⟩:=I.loc;obtain⟨u,r,l⟩:=hl i x v hN e hv;have fin:EP X pins σ Q u s:=⟨v,H,I,r,h⟩
 rcases l with⟨hk,hm⟩|⟨hk,c,hc,hcell⟩
 ·exact wpAny_Name (wpAny_loadName_local I.ok.kind hk hn hm fin) hd
 ·rcases hk with hk|hk
  ·exact wpAny_Name (wpAny_loadName_cell I.ok.kind hk hc hcell fin) hd
  ·exact wpAny_Name (wpAny_loadName_free I.ok.kind hk hc hcell fin hcd) hd
theorem pe_int{i j pos}:PE X (.Constant (.int i) j pos) (tC<|.int i):=λ_ _ _ H _ I h=>wpAny_Constant_int ⟨.int i,H,I.tok _,⟨_,rfl⟩,h⟩
theorem pe_bl{b j pos}:PE X (.Constant (.bool b) j pos) (tC<|.bl b):=λ_ _ _ H _ I h=>Constant_bool ⟨.bl b,H,I,rfl,h⟩
theorem pe_non{j pos}:PE X (.Constant .none j pos) (tC .non):=λ_ _ _ H _ I h=>Constant_none ⟨.non,H,I,rfl,h⟩
theorem pe_str{x j pos}:PE X (.Constant (.str x) j pos) (tC<|.str x):=λ_ _ _ H _ I h=>Calls.Constant_str ⟨.str x,H,I.tok _,⟨_,rfl⟩,h⟩
def Gl(X:Cx)(x:Str):Prop:=X.env.kindOf x=some .globalImplicit
theorem aEn{E:BH->BI->Prop}{σ:St}{x:Str}{u:BH}{pos:Pos}{Q:BH->BI->Prop}(I:Inv X pins σ H s)(hg:Gl X x)(hm:X.mg x=some u)(h:Q u s)
  (hd:(x==("__debug__":Str))=false:=by decide):AI (AG X.prog X.w) X.A (eval (.Name x pos) X.env) Q E s:=
 Calls.Name_function_global I.ok.kind hg (Calls.loadGlobal_global (by rw[I.ok.glob];exact I.mod.glob.keeps I.bk) hm h) hd
theorem nF{E:BH->BI->Prop}{σ:St}{x:Str}{u:BH}{pos:Pos}{Q:BH->BI->Prop}(I:Inv X pins σ H s)(hg:Gl X x)(hm:X.mg x=none)(hv:Ap x=some u)(h:Q u s)
  (hn:x≠"__name__":=by decide) (hd:(x==("__debug__":Str))=false:=by decide):AI (AG X.prog X.w) X.A (eval (.Name x pos) X.env) Q E s:=by
 obtain⟨mb,h1,h2⟩:=I.mod.blt;exact Calls.Name_function_global I.ok.kind hg (Calls.loadGlobal_builtin (by rw[I.ok.glob];exact I.mod.glob.keeps I.bk) hm (by rw[I.ok.blt];exact h1.keeps I.bk) ((h2 x hn).trans hv) h) hd
theorem aEs{x:Str}{v:V}{u:BH}{pos:Pos}(hg:Gl X x)(hm:X.mg x=some u)(r:RelV v u)(hd:(x==("__debug__":Str))=false:=by decide):PE X (.Name x pos) (tC v):=
 λ_ _ _ H _ I h=>aEn I hg hm ⟨v,H,I,r,h⟩ hd
theorem aKf{x:Str}{v:V}{u:BH}{pos:Pos}(hg:Gl X x)(hm:X.mg x=none)(hv:Ap x=some u)(r:RelV v u)(hn:x≠"__name__":=by decide)(hd:(x==("__debug__":Str))=false:=by decide):PE X (.Name x pos) (tC v):=
 λ_ _ _ H _ I h=>nF I hg hm hv ⟨v,H,I,r,h⟩ hn hd
def t2I(ta tb:TE)(k:Int->Int->Hp->Prop):St->Hp->Prop:=λσ H=>ta σ H λx H1=>tb σ H1 λy H2=>∃i j,x=.int i/\y=.int j/\k i j H2
variable {a b:Expr}{ta tb:TE}{pos:Pos}
noncomputable def aLA(p:Int->Int->Bool)(ta tb:TE):TE:=λσ H Q=>t2I ta tb (λi j H2=>Q (.bl<|p i j) H2) σ H
noncomputable abbrev tLt:TE->TE->TE:=aLA λi j=>decide<|i<j
noncomputable abbrev tLe:TE->TE->TE:=aLA λi j=>decide<|i<=j
noncomputable abbrev tGt:TE->TE->TE:=aLA λi j=>decide<|j<i
noncomputable abbrev tGe:TE->TE->TE:=aLA λi j=>decide<|j<=i
noncomputable abbrev tEqI:TE->TE->TE:=aLA λi j=>decide<|i=j
noncomputable abbrev tNeI:TE->TE->TE:=aLA λi j=> !decide (i=j)
noncomputable def tB(t:TE):TT:=λσ H Q=>t σ H λx H1=>∃c,x=.bl c/\Q c H1
theorem aOk{e:Expr}{t:TE}(h:PE X e t)(he:∀whole,isTrue e X.env whole=(do let v <-whole;standAt e.pos;holding [v] (truthy v)):=by intro _;rfl):PT X e (tB t):=by intro pins s σ H Q I hw;refine isTrue_plain (thn (h pins s σ H _ I hw) λv s1 ⟨x,H1,I1,r1,q1⟩=> ?_)<|he _;obtain⟨d,rfl,q⟩:=q1;cases r1;exact Aa ⟨H1,I1,q⟩
variable {tA tB':TT}{rest:List Expr}
noncomputable def tAnd(t u:TT):TT:=λσ H Q=>t σ H λc H1=>if c=true then u σ H1 Q else Q false H1
noncomputable def tOr(t u:TT):TT:=λσ H Q=>t σ H λc H1=>if c=true then Q true H1 else u σ H1 Q
noncomputable def tNot(t:TT):TT:=λσ H Q=>t σ H λc H1=>Q (!c) H1
theorem aKL(ha:PT X a tA):PW X (.BoolOp .And [a] pos) tA:=by
 intro wh pins s σ H Q I h;refine isTrue_and<|thn (ha pins s σ H Q I h) λc s1 e=> ?_;cases c with
 |true=>exact isTrue_and_nil e
 |false=>exact e
theorem aNF(ha:PT X a tA):PW X (.BoolOp .Or [a] pos) tA:=by
 intro wh pins s σ H Q I h;refine isTrue_or<|thn (ha pins s σ H Q I h) λc s1 e=> ?_;cases c with
 |false=>exact isTrue_or_nil e
 |true=>exact e
theorem aMJ(ha:PT X a tA)(hb:PW X (.BoolOp .And (b::rest) pos) tB'):PW X (.BoolOp .And (a::b::rest) pos) (tAnd tA tB'):=by
 intro wh pins s σ H Q I h;refine isTrue_and<|thn (ha pins s σ H _ I h) λc s1 ⟨H1,I1,q1⟩=> ?_;cases c with
 |true=>exact hb wh pins s1 σ H1 Q I1 q1
 |false=>exact⟨H1,I1,q1⟩
theorem aPv(ha:PT X a tA)(hb:PW X (.BoolOp .Or (b::rest) pos) tB'):PW X (.BoolOp .Or (a::b::rest) pos) (tOr tA tB'):=by
 intro wh pins s σ H Q I h;refine isTrue_or<|thn (ha pins s σ H _ I h) λc s1 ⟨H1,I1,q1⟩=> ?_;cases c with
 |true=>exact⟨H1,I1,q1⟩
 |false=>exact hb wh pins s1 σ H1 Q I1 q1
theorem aNW(ha:PT X a tA):PT X (.UnaryOp .Not a pos) (tNot tA):=by intro pins s σ H Q I h;exact isTrue_not<|ha pins s σ H (λc H1=>Q (!c) H1) I h
noncomputable def aQa(ta tb:TE):TE:=λσ H Q=>ta σ H λx H1=>∃c,x=.bl c/\if c=true then tb σ H1 Q else Q (.bl false) H1
noncomputable def tOrV(ta tb:TE):TE:=λσ H Q=>ta σ H λx H1=>∃c,x=.bl c/\if c=true then Q (.bl true) H1 else tb σ H1 Q
noncomputable def aPU(ta:TE):TE:=λσ H Q=>ta σ H λx H1=>∃c,x=.bl c/\Q (.bl<|!c) H1
theorem aNX{op}{t:TE}(h:PE X a t):PE X (.BoolOp op [a] pos) t:=λpins s σ H Q I hw=>BoolOp_one<|h pins s σ H Q I hw
theorem aNR(ha:PE X a ta)(hb:PE X (.BoolOp .And (b::rest) pos) tb):PE X (.BoolOp .And (a::b::rest) pos) (aQa ta tb):=by
 intro pins s σ H Q I h;refine BoolOp_and<|thn (ha pins s σ H _ I h) λv s1 ⟨x,H1,I1,r1,q1⟩=> ?_;obtain⟨c,rfl,q1⟩:=q1;cases r1;refine Aa ?_;cases c with
 |true=>exact hb pins s1 σ H1 Q I1 q1
 |false=>exact⟨.bl false,H1,I1,rfl,q1⟩
theorem aPw(ha:PE X a ta)(hb:PE X (.BoolOp .Or (b::rest) pos) tb):PE X (.BoolOp .Or (a::b::rest) pos) (tOrV ta tb):=by
 intro pins s σ H Q I h;refine BoolOp_or<|thn (ha pins s σ H _ I h) λv s1 ⟨x,H1,I1,r1,q1⟩=> ?_;obtain⟨c,rfl,q1⟩:=q1;cases r1;refine Aa ?_;cases c with
 |false=>exact hb pins s1 σ H1 Q I1 q1
 |true=>exact⟨.bl true,H1,I1,rfl,q1⟩
theorem aNY(ha:PE X a ta):PE X (.UnaryOp .Not a pos) (aPU ta):=by intro pins s σ H Q I h;refine UnaryOp_<|thn (ha pins s σ H _ I h) λv s1 ⟨x,H1,I1,r1,q1⟩=> ?_;obtain⟨c,rfl,q1⟩:=q1;cases r1;exact not_of<|Aa ⟨.bl<|!c,H1,I1,rfl,q1⟩
def SqL(K:aB)(H:Hp)(a:BJ)(xs:List V):Prop:=
 Rd H a (.lst xs)\/
  ∃ (o:BM) (its:Array BH) (n:Nat),K.lookup a=some o/\o.cls=.type "list"/\o.dict=none/\o.data=.seq its n/\its.size<=AN/\Vals xs its.toList
def SqT(K:aB)(H:Hp)(a:BJ)(xs:List V):Prop:=
 Rd H a (.tup xs)\/
  ∃ (o:BM) (its:Array BH) (n:Nat),K.lookup a=some o/\o.cls=.type "tuple"/\o.data=.seq its n/\its.size<=AN/\Vals xs its.toList
noncomputable def absV:BH->Option V
 |.none=>some .non
 |.bool b=>some<|.bl b
 |.int i _=>some<|.int i
 |.str x _=>some<|.str x
 |.bytes b _=>some<|.byt b
 |.float b _=>some<|.flt b
 |.ref a=>some<|.ref a
 |.type n=>some<|.ty n
 |_=>none
theorem RelV.abs{x:V}{u:BH}(r:RelV x u):absV u=some x:=by
 cases x with
 |non=>cases r;rfl
 |bl _=>cases r;rfl
 |int _=>obtain⟨t,rfl⟩:=r;rfl
 |str _=>obtain⟨t,rfl⟩:=r;rfl
 |byt _=>obtain⟨t,rfl⟩:=r;rfl
 |flt _=>obtain⟨t,rfl⟩:=r;rfl
 |ref _=>cases r;rfl
 |ty _=>cases r;rfl
theorem RelV.inj{x y:V}{u:BH}(r:RelV x u)(q:RelV y u):x=y:=cA.inj<|r.abs.symm.trans q.abs
theorem Vals.inj:∀ {xs ys:List V}{us:List BH},Vals xs us->Vals ys us->xs=ys
 |_,_,_,.nil,.nil=>rfl
 |_,_,_,.cons r t,.cons r' t'=>by rw[r.inj r',Vals.inj t t']
variable {σ:St}{a:BJ}{xs ys:List V}
theorem SqL.of{K:aB}(h:H a=some (.lst xs)):SqL K H a xs:=.inl<|.inl h
theorem SqT.of{K:aB}(h:H a=some (.tup xs)):SqT K H a xs:=.inl<|.inl h
theorem Inv.list(I:Inv X pins σ H s)(h:SqL X.K H a xs):∃its:List BH,Vals xs its/\PlainL s.heap a its.toArray/\xs.length<=AN:=by
 rcases h with h|⟨o,its,n,hk,hc,hd,hs,hz,r⟩
 ·obtain⟨z,its,n,r,e⟩:=h.ok I.hok;exact⟨its,r,⟨_,n,e,rfl,rfl,rfl⟩,z⟩
 ·refine⟨its.toList,r,⟨o,n,I.kIn a o hk,hc,hd,by simpa using hs⟩, ?_⟩;have e:=r.length;simp only[cM] at e;omega
theorem Inv.tuple(I:Inv X pins σ H s)(h:SqT X.K H a xs):∃its:List BH,Vals xs its/\IsTup s.heap a its.toArray/\xs.length<=AN:=by
 rcases h with h|⟨o,its,n,hk,hc,hs,hz,r⟩
 ·obtain⟨z,its,r,p⟩:=h.ok I.hok;exact⟨its,r,p.tup,z⟩
 ·refine⟨its.toList,r,⟨o,I.kIn a o hk,hc,n,by simpa using hs⟩, ?_⟩;have e:=r.length;simp only[cM] at e;omega
theorem Inv.list_inj(I:Inv X pins σ H s)(h:SqL X.K H a xs)(h':SqL X.K H a ys):xs=ys:=by
 obtain⟨its,r,⟨o,n,e,_,_,d⟩,_⟩:=I.list h;obtain⟨its',r',⟨o',n',e',_,_,d'⟩,_⟩:=I.list h';rw[e] at e';cases e';rw[d] at d';injection d' with d1 _
 have:its=its':=by simpa using congrArg aOC d1
 subst this;exact r.inj r'
theorem Inv.tuple_inj(I:Inv X pins σ H s)(h:SqT X.K H a xs)(h':SqT X.K H a ys):xs=ys:=by
 obtain⟨its,r,⟨o,e,_,n,d⟩,_⟩:=I.tuple h;obtain⟨its',r',⟨o',e',_,n',d'⟩,_⟩:=I.tuple h';rw[e] at e';cases e';rw[d] at d';injection d' with d1 _
 have:its=its':=by simpa using congrArg aOC d1
 subst this;exact r.inj r'
noncomputable abbrev Cx.wish(X:Cx)(E:BH->BI->Prop):Cx:={X with xe:=E}
noncomputable abbrev Cx.nox(X:Cx):Cx:=X.wish λ_ _=>False
theorem Cx.Ok.wish(ok:X.Ok)(E:BH->BI->Prop):(X.wish E).Ok:=
 ⟨ok.mod,ok.kind,ok.glob,ok.blt,ok.above,ok.inj,ok.has,ok.cab,ok.hd,ok.frames,ok.stk,ok.exf,ok.bs,ok.bsz,ok.noex,ok.exfs,ok.funs,ok.frf⟩
theorem Cx.Ok.unwish{E:BH->BI->Prop}(ok:(X.wish E).Ok):X.Ok:=
 ⟨ok.mod,ok.kind,ok.glob,ok.blt,ok.above,ok.inj,ok.has,ok.cab,ok.hd,ok.frames,ok.stk,ok.exf,ok.bs,ok.bsz,ok.noex,ok.exfs,ok.funs,ok.frf⟩
variable {E:BH->BI->Prop}
theorem Inv.wish(I:Inv X pins σ H s)(E:BH->BI->Prop):Inv (X.wish E) pins σ H s:=⟨I.ok.wish E,I.os,I.bare,I.base,I.loc,I.cell,I.free,I.freeC,I.pin,I.hok,I.len⟩
theorem Inv.unwish(I:Inv (X.wish E) pins σ H s):Inv X pins σ H s:=⟨I.ok.unwish,I.os,I.bare,I.base,I.loc,I.cell,I.free,I.freeC,I.pin,I.hok,I.len⟩
theorem SP.unwish{D:uU}{f:Flow}{s':BI}(h:SP (X.wish E) pins D f s'):SP X pins D f s':=by
 cases f with
 |next=>obtain⟨σ',H',I,q⟩:=h;exact⟨σ',H',I.unwish,q⟩
 |brk=>obtain⟨σ',H',I,q⟩:=h;exact⟨σ',H',I.unwish,q⟩
 |cont=>obtain⟨σ',H',I,q⟩:=h;exact⟨σ',H',I.unwish,q⟩
 |ret u=>obtain⟨v,σ',H',I,r,q⟩:=h;exact⟨v,σ',H',I.unwish,r,q⟩
theorem PSs.nox{st:List BN}{t:TS}(h:PSs X.nox st t):PSs X st t:=λpins s σ H D I hw=>Ac (h pins s σ H D (I.wish _) hw) (λ_ _ q=>q.unwish) λ_ _ z=>False.elim z
variable {st:BN}{rest:List BN}{t u:TS}{e:Expr}{te:TE}
noncomputable def aPY:TS:=λD σ H=>D.nx σ H
noncomputable def tSeq(t u:TS):TS:=λD σ H=>t {D with nx:=u D} σ H
theorem pss_nil:PSs X [] aPY:=λ_ _ σ H _ I h=>wpAny_execs_nil ⟨σ,H,I,h⟩
theorem aHO(h1:PS X st t)(h2:PSs X rest u):PSs X (st::rest) (tSeq t u):=by
 intro pins s σ H D I h;refine wpAny_execs_cons<|thn (h1 pins s σ H {D with nx:=u D} I h) λf s1 q=> ?_;cases f with
 |next=>obtain⟨σ',H',I',q⟩:=q;exact h2 pins s1 σ' H' D I' q
 |ret v=>exact q
 |brk=>exact q
 |cont=>exact q
theorem aKy(h1:PS X st t):PSs X [st] t:=by
 intro pins s σ H D I h;refine wpAny_execs_cons<|thn (h1 pins s σ H D I h) λf s1 q=> ?_;cases f with
 |next=>exact wpAny_execs_nil q
 |ret v=>exact q
 |brk=>exact q
 |cont=>exact q
theorem Inv.quiet(I:Inv X pins σ H s):interactive X.env=false:=by simp[interactive,I.ok.kind]
noncomputable def aPM(te:TE):TS:=λD σ H=>te σ H λ_ H1=>D.nx σ H1
theorem vG(he:PE X e te)(hs:Ag e none pos.line X.env=pure false:=by rfl):PS X (.Expr e pos) (aPM te):=by intro pins s σ H D I h;exact wpAny_Expr_any (thn (he pins s σ H _ I h) λv s1 ⟨x,H1,I1,r1,q1⟩=>⟨σ,H1,I1,q1⟩) I.quiet hs
noncomputable def tRet(te:TE):TS:=λD σ H=>te σ H D.rt
theorem aJm(he:PE X e te):PS X (.Return (some e) pos) (tRet te):=by intro pins s σ H D I h;exact wpAny_Return_some<|thn (he pins s σ H _ I h) λv s1 ⟨x,H1,I1,r1,q1⟩=>⟨x,σ,H1,I1,r1,q1⟩
noncomputable def tIfS(c:TT)(t u:TS):TS:=λD σ H=>c σ H λb H1=>if b=true then t D σ H1 else u D σ H1
theorem aPX{c:Expr}{a b:List BN}{tc:TT}(hc:PT X c tc)(ha:PSs X a t)(hb:PSs X b u):PS X (.If c a b pos) (tIfS tc t u):=by
 intro pins s σ H D I h;refine wpAny_If<|thn (hc pins s σ H _ I h) λd s1 ⟨H1,I1,q1⟩=> ?_;cases d with
 |true=>exact ha pins s1 σ H1 D I1 q1
 |false=>exact hb pins s1 σ H1 D I1 q1
noncomputable abbrev TG:=V->St->Hp->(St->Hp->Prop)->Prop
noncomputable abbrev TGs:=List V->St->Hp->(St->Hp->Prop)->Prop
def PG(X:Cx)(target:Expr)(t:TG):Prop:=
 ∀ (pins:List (BJ×BM)) (s:BI) (σ:St) (H:Hp) (v:V) (u:BH) (Q:St->Hp->Prop),Inv X pins σ H s->RelV v u->t v σ H Q->
  AI (AG X.prog X.w) X.A (assign target X.env u) (λ_ s'=>∃σ' H',Inv X pins σ' H' s'/\Q σ' H') X.xe s
def PGs(X:Cx)(ts:List Expr)(t:TGs):Prop:=
 ∀ (pins:List (BJ×BM)) (s:BI) (σ:St) (H:Hp) (vs:List V) (us:List BH) (Q:St->Hp->Prop),Inv X pins σ H s->Vals vs us->t vs σ H Q->
  AI (AG X.prog X.w) X.A (assignInOrder ((BC ts X.env).map (·.2)) us) (λ_ s'=>∃σ' H',Inv X pins σ' H' s'/\Q σ' H') X.xe s
noncomputable abbrev TSet:=V->V->V->Hp->(Hp->Prop)->Prop
noncomputable abbrev TIp:=V->V->Hp->VK->Prop
noncomputable def aDt(i:Nat):TG:=λv σ H Q=>Q (σ.set i (some v)) H
theorem aKl{i:Nat}{x:Str}(hN:X.N.Nodup)(hi:X.N[i]? =some x)(hx:Loc X.env.scope x)(hf:X.fn x=true\/X.env.scope.names.lookup x=some .local:=by first|exact .inl rfl|exact .inr rfl|assumption):PG X (.Name x pos) (aDt i):=by intro pins s σ H v u Q I r h;exact wpAny_assign_Name<|yH I hN hi hx r (λs' I'=>⟨_,H,I',h⟩) hf
noncomputable def aQv:TGs:=λvs σ H Q=>vs=[]/\Q σ H
noncomputable def aMF(t:TG)(u:TGs):TGs:=λvs σ H Q=>∃v r,vs=v::r/\t v σ H λσ' H'=>u r σ' H' Q
theorem jX:PGs X [] aQv:=by intro pins s σ H vs us Q I r h;obtain⟨e,h⟩:=h;subst e;cases r;exact assignInOrder_nil ⟨σ,H,I,h⟩
theorem dQ{es:List Expr}{t:TG}{u:TGs}(h1:PG X e t)(h2:PGs X es u)
  (hs:(BC (e::es) X.env).map (·.2)=assign e X.env::(BC es X.env).map (·.2):=by rfl):PGs X (e::es) (aMF t u):=by
 intro pins s σ H vs us Q I r h;obtain⟨v,vr,e1,h⟩:=h;subst e1;cases r with
 |cons r rr=>rw[hs];refine assignInOrder_cons<|thn (h1 pins s σ H _ _ _ I r h) λ_ s1 ⟨σ1,H1,I1,q1⟩=> ?_;exact h2 pins s1 σ1 H1 _ _ Q I1 rr q1
noncomputable def gTup(K:aB)(n:Nat)(t:TGs):TG:=λv σ H Q=>∃a xs,v=.ref a/\SqT K H a xs/\xs.length=n/\t xs σ H Q
theorem aNT{es:List Expr}{k:Nat}{t:TGs}{n:Nat}(hc:X.calm=true)(h:PGs X es t)
  (hn:(BC es X.env).length=n:=by rfl) (hst:(BC es X.env).findIdx? (·.1)=none:=by rfl):PG X (.Tuple es k pos) (gTup X.K n t):=by
 intro pins s σ H v u Q I r hw;obtain⟨a,xs,e1,hq,hl,hw⟩:=hw;subst e1;cases r;obtain⟨its,rv,ht,hz⟩:=I.tuple hq;refine assign_Tuple_tuple (I.ok.hd hc) ht (by simp[hn,<-hl,rv.length]) hst λh' hx=> ?_
 have I1:Inv X pins σ H {s with heap:=h'}:=I.kept (t':=s.toks) λb o e=>hx b o (bS<|aS e) e
 exact h pins _ σ H xs _ Q I1 (by simpa using rv) hw
noncomputable def aQy(te:TE)(g:TG):TS:=λD σ H=>te σ H λx H1=>g x σ H1 D.nx
theorem aNO{tg:Expr}{g:TG}(he:PE X e te)(hg:PG X tg g)(hs:swapsWithSole [tg] e pos.line X.env=pure false:=by rfl)(hw:swappedStores [tg] e X.env=pure none:=by rfl)
  (h1:(BC [tg] X.env).map (·.2)=[assign tg X.env]:=by rfl):PS X (.Assign [tg] e pos) (aQy te g):=by
 intro pins s σ H D I h;refine wpAny_Assign_stores (thn (he pins s σ H _ I h) λv s1 ⟨x,H1,I1,r1,q1⟩=> ?_) hs hw;rw[h1];exact thn (hg pins s1 σ H1 x v _ I1 r1 q1) λ_ s2 q=>q
theorem uI{i:Nat}{x:Str}{pos':Pos}(hN:X.N.Nodup)(hi:X.N[i]? =some x)(hx:Loc X.env.scope x)(he:PE X e te)(hs:Ag e (some<|.Name x pos') pos.line X.env=pure false:=by rfl)(hf:X.fn x=true\/X.env.scope.names.lookup x=some .local:=by first|exact .inl rfl|exact .inr rfl|assumption):
  PS X (.Assign [.Name x pos'] e pos) (aQy te<|aDt i):=by
 intro pins s σ H D I h;refine wpAny_Assign_Name (thn (he pins s σ H _ I h) λv s1 ⟨y,H1,I1,r1,q1⟩=> ?_) hs;exact yH I1 hN hi hx r1 (λs2 I2=>⟨_,H1,I2,q1⟩) hf
noncomputable def aMN(c:TT)(tb:TS):TS:=λD σ H=>∃W:Nat->St->Hp->Prop,(∃m,W m σ H)/\∀m σ H,W m σ H->
 c σ H λb H1=>if b=true then ∃N:St->Hp->Prop,(∀σ' H',N σ' H'->∃m',m'<m/\W m' σ' H')/\tb {D with nx:=N,ct:=N,bk:=D.nx} σ H1 else D.nx σ H1
theorem aHJ{c:Expr}{body:List BN}{tc:TT}{tb:TS}(hp:PassesOwn (AG X.prog X.w) X.A X.env X.xe)(hc:PT X c tc)(hb:PSs X body tb):PS X (.While c body [] pos) (aMN tc tb):=by
 intro pins s σ H D I h;obtain⟨W,⟨m0,w0⟩,turn⟩:=h;refine wpAny_While<|codeAny_whileLoop (λn s'=>∃σ' H',Inv X pins σ' H' s'/\W n σ' H') ?_ m0 ⟨σ,H,I,w0⟩;rintro n s1 ⟨σ1,H1,I1,w1⟩;refine Ar hp<|thn (hc pins s1 σ1 H1 _ I1<|turn n σ1 H1 w1) λb s2 ⟨H2,I2,q2⟩=> ?_;cases b with
 |true=>
  obtain⟨N,hN,q2⟩:=q2;rw[if_pos rfl];refine Ar hp<|thn (hb pins s2 σ1 H2 _ I2 q2) λf s3 q3=> ?_;cases f with
  |next=>obtain⟨σ3,H3,I3,n3⟩:=q3;obtain⟨m',hm,w3⟩:=hN σ3 H3 n3;exact⟨m',hm,σ3,H3,I3,w3⟩
  |cont=>obtain⟨σ3,H3,I3,n3⟩:=q3;obtain⟨m',hm,w3⟩:=hN σ3 H3 n3;exact⟨m',hm,σ3,H3,I3,w3⟩
  |brk=>exact q3
  |ret v=>exact q3
 |false=>rw[if_neg bY];exact wpAny_execs_nil ⟨σ1,H2,I2,q2⟩
structure It where
 go:Nat->Hp->Prop
 yld:Nat->Hp->V->Hp->Prop
 stop:Nat->Hp->Prop
def yD(X:Cx)(pins:List (BJ×BM))(H:Hp)(b:BJ):Prop:=
 H b=none/\b≠X.env.locals/\b∉X.fs/\(b∈X.ex\/X.s₀.heap.objs.size<=b)/\(∀x c,X.env.cells.lookup x=some c->c≠b)/\∀p∈X.pn++pins,p.1≠b
theorem Inv.fpOk{b:BJ}(I:Inv X pins σ H s)(hb:s.heap.objs.size<=b)(hn:H' b=none):yD X pins H' b:=by
 refine⟨hn,lK<|bE I.lt hb,I.nofs hb,.inr<|cJ I.sz hb,λx c e z=> ?_,λp hp z=> ?_⟩
 ·obtain⟨v,q⟩:=I.cell x c e;exact absurd (bE q.lt<|by rw[z];exact hb)<|dU _
 ·exact absurd (bE (aS (I.pin p hp).1)<|by rw[z];exact hb)<|dU _
structure aIi(P:AD)(w:AL)(K:aB)(tg:Expr)(J:It)(fp:List BJ)(it:BJ)(tn:Nat->BL->Prop):Prop where
 mem:it∈fp
 obj:∀i h,tn i h->∀b∈fp,∃o,h.get? b=some o/\∀v,o.data≠ .cell v
 keep:∀i h h',tn i h->(∀b∈fp,∀o,h.get? b=some o->h'.get? b=some o)->tn i h'
 item:∀ (X:Cx),X.prog=P->X.w=w->X.K=K->X.calm=true->∀ (i:Nat) (pins:List (BJ×BM)) (s:BI) (σ:St) (H:Hp) (E:BH->BI->Prop),Inv X pins σ H s->(∀b∈fp,yD X pins H b)->tn i s.heap->J.go i H->
  AI (AG P w) X.A (pyNext (.ref it)) (fun r s1=>∃u,r=some u∧
   AI (AG P w) X.A (letOwnedTupleGo tg (.ref it) u) (λ_ s2=>∃x H',Inv X pins σ H' s2/\RelV x u/\J.yld i H x H'/\tn (i+1) s2.heap/\∀b∈fp,H' b=none) E s1) E s
 done:∀ (X:Cx),X.prog=P->X.w=w->X.K=K->X.calm=true->∀ (i:Nat) (pins:List (BJ×BM)) (s:BI) (σ:St) (H:Hp) (E:BH->BI->Prop),Inv X pins σ H s->(∀b∈fp,yD X pins H b)->tn i s.heap->J.stop i H->
  AI (AG P w) X.A (pyNext<|.ref it) (λr s1=>r=none/\Inv X pins σ H s1) E s
 self:∀ (A:BK) (i:Nat) (s:BI) (Q:BH->BI->Prop) (E:BH->BI->Prop),tn i s.heap->Q (.ref it) s->AI (AG P w) A (pyIter<|.ref it) Q E s
noncomputable abbrev TI:=St->Hp->(It->Hp->Prop)->Prop
def PIE(X:Cx)(pins:List (BJ×BM))(σ:St)(tg:Expr)(R:It->Hp->Prop)(itv:BH)(s2:BI):Prop:=
 ∃ (it:BJ) (fp:List BJ) (tn:Nat->BL->Prop) (J:It) (H':Hp),itv=.ref it/\Inv X pins σ H' s2/\aIi X.prog X.w X.K tg J fp it tn/\tn 0 s2.heap/\(∀b∈fp,yD X pins H' b)/\R J H'
def PI(X:Cx)(tg iter:Expr)(wi:TI):Prop:=
 ∀ (pins:List (BJ×BM)) (s:BI) (σ:St) (H:Hp) (R:It->Hp->Prop),Inv X pins σ H s->wi σ H R->
  AI (AG X.prog X.w) X.A (eval iter X.env) (λv s1=>AI (AG X.prog X.w) X.A (pyIter v) (PIE X pins σ tg R) X.xe s1) X.xe s
theorem aGR{M:Model}{A:BK}{tg:Expr}{it:BJ}{u:BH}{o:BM}{n:String}{vs:Array BH}{Q:Unit->BI->Prop}(ho:s.heap.get? it=some o)(hc:o.cls=.type n)(hd:o.data=.fields vs)
  (hn:["enumerate","zip","dict_itemiterator","dict_reverseitemiterator","odict_iterator","itertools.zip_longest","itertools.pairwise"].contains n=false) (hQ:Q () s):AI M A (letOwnedTupleGo tg (.ref it) u) Q E s:=by
 unfold letOwnedTupleGo
 cases tg<;>first
  |exact AB hQ
  | (cases u<;>first
    |exact AB hQ
    | (refine AA (wpAny_load ho ?_)
       rw[hc,hd];show AI M A (if(["enumerate","zip","dict_itemiterator","dict_reverseitemiterator","odict_iterator","itertools.zip_longest","itertools.pairwise"].contains n&&vs[0]? ==some (rawInt _))=true then _ else _) Q E s;rw[if_neg<|by intro h;rw[hn,lF] at h;cases h]
       exact AB hQ))
noncomputable def Itl(K:aB)(a:BJ):It:=
 ⟨λi H=>∃xs x,SqL K H a xs/\xs[i]? =some x,λi H x H'=>H'=H/\∀xs,SqL K H a xs->xs[i]? =some x,λi H=>∃xs,SqL K H a xs/\xs.length<=i⟩
noncomputable def Itt(K:aB)(a:BJ):It:=
 ⟨λi H=>∃xs x,SqT K H a xs/\xs[i]? =some x,λi H x H'=>H'=H/\∀xs,SqT K H a xs->xs[i]? =some x,λi H=>∃xs,SqT K H a xs/\xs.length<=i⟩
noncomputable def Itr(lo:Int)(n:Nat):It:=⟨λi _=>i<n,λi H x H'=>H'=H/\x=.int (lo+i),λi _=>n<=i⟩
theorem aFS{K:aB}{tg:Expr}(a it:BJ):aIi P w K tg (Itl K a) [it] it (λi h=>h.IsListIter it a i) where
 mem:=by simp
 obj:=λi h st b hb=>by
  have e:b=it:=by simpa using hb
  subst e;obtain⟨o,e,c,d⟩:=st;exact⟨o,e,λv z=>by rw[d] at z;cases z⟩
 keep:=λi h h' st k=>st.at λo e=>k it (by simp) o e
 item:=by
  intro X hP hw hK hc i pins s σ H E I hf st hg;subst hP hw hK;obtain⟨xs,x,hq,hx⟩:=hg;obtain⟨its,rv,p,hz⟩:=I.list hq;obtain⟨u,hu,ru⟩:=rv.get hx;obtain⟨f0,f1,f2,f3,f4,f5⟩:=hf it (by simp);refine wpAny_pyNext_list_item st p.isList (x:=u) (by simpa using hu) λh' st' sb=> ?_
  have I1:Inv X pins σ H {s with heap:=h'}:=I.turned (t':=s.toks) (λb o hb e=>(sb.2 b hb).trans e) f0 f1 f3 f4 f5;obtain⟨o,e,c,d⟩:=id st';exact⟨u,rfl,aGR (s:={s with heap:=h'}) e c d (by decide) ⟨x,H,I1,ru,⟨rfl,λys hy=>by rw[I.list_inj hy hq];exact hx⟩,st',λb hb=>(hf b hb).1⟩⟩
 done:=by intro X hP hw hK hc i pins s σ H E I hf st hg;subst hP hw hK;obtain⟨xs,hq,hx⟩:=hg;obtain⟨its,rv,p,hz⟩:=I.list hq;obtain⟨f0,f1,f2,f3,f4,f5⟩:=hf it (by simp);have hl:=rv.length;exact wpAny_pyNext_list_end (I.ok.hd hc) st p.isList (by simp;omega) λh' eb=>⟨rfl,I.turned (t':=s.toks) (λb o hb e=>eb b o hb e) f0 f1 f3 f4 f5⟩
 self:=λ_ _ _ _ _ st h=>wpAny_pyIter_listiter st h
theorem aCG{K:aB}{tg:Expr}(a it:BJ):aIi P w K tg (Itt K a) [it] it (λi h=>h.IsTupleIter it a i) where
 mem:=by simp
 obj:=λi h st b hb=>by
  have e:b=it:=by simpa using hb
  subst e;obtain⟨o,e,c,d⟩:=st;exact⟨o,e,λv z=>by rw[d] at z;cases z⟩
 keep:=λi h h' st k=>st.at λo e=>k it (by simp) o e
 item:=by
  intro X hP hw hK hc i pins s σ H E I hf st hg;subst hP hw hK;obtain⟨xs,x,hq,hx⟩:=hg;obtain⟨its,rv,p,hz⟩:=I.tuple hq;obtain⟨u,hu,ru⟩:=rv.get hx;obtain⟨f0,f1,f2,f3,f4,f5⟩:=hf it (by simp);refine wpAny_pyNext_tuple_item st (show s.heap.IsTuple a its.toArray from p) (x:=u) (by simpa using hu) λh' st' sb=> ?_
  have I1:Inv X pins σ H {s with heap:=h'}:=I.turned (t':=s.toks) (λb o hb e=>(sb.2 b hb).trans e) f0 f1 f3 f4 f5;obtain⟨o,e,c,d⟩:=id st';exact⟨u,rfl,aGR (s:={s with heap:=h'}) e c d (by decide) ⟨x,H,I1,ru,⟨rfl,λys hy=>by rw[I.tuple_inj hy hq];exact hx⟩,st',λb hb=>(hf b hb).1⟩⟩
 done:=by intro X hP hw hK hc i pins s σ H E I hf st hg;subst hP hw hK;obtain⟨xs,hq,hx⟩:=hg;obtain⟨its,rv,p,hz⟩:=I.tuple hq;obtain⟨f0,f1,f2,f3,f4,f5⟩:=hf it (by simp);have hl:=rv.length;exact wpAny_pyNext_tuple_end (I.ok.hd hc) st (show s.heap.IsTuple a its.toArray from p) (by simp;omega) λh' eb=>⟨rfl,I.turned (t':=s.toks) (λb o hb e=>eb b o hb e) f0 f1 f3 f4 f5⟩
 self:=λ_ _ _ _ _ st h=>wpAny_pyIter_tupleiter st h
theorem aDb{K:aB}{tg:Expr}(it:BJ)(lo:Int)(n:Nat):aIi P w K tg (Itr lo n) [it] it (λi h=>IsRangeIter h it (lo+(i:Nat)*1) ((n:Int)-(i:Nat)) 1) where
 mem:=by simp
 obj:=λi h st b hb=>by
  have e:b=it:=by simpa using hb
  subst e
  exact ⟨_,st,fun v z=>by
   have z':Data.fields _=Data.cell v:=z
   cases z'⟩
 keep:=λi h h' st k=>k it (by simp) _ st
 item:=by
  intro X hP hw hK hc i pins s σ H E I hf st hg;subst hP hw hK;obtain⟨f0,f1,f2,f3,f4,f5⟩:=hf it (by simp);have W:=Walks.range (prog:=X.prog) (w:=X.w) (I.ok.hd hc) it lo 1 n;refine W.item i s _ _ hg st λv h' tk hv st' kk=> ?_
  obtain⟨t,rfl⟩:=hv;have I1:Inv X pins σ H {s with heap:=h',toks:=tk}:=I.turned (λb o hb e=>kk b o (by simpa using hb) e) f0 f1 f3 f4 f5;refine⟨_,rfl,aGR (s:={s with heap:=h',toks:=tk}) (n:="range_iterator") st' rfl rfl (by decide) ⟨.int<|lo+i,H,I1,⟨t, ?_⟩,⟨rfl,rfl⟩,st',λb hb=>(hf b hb).1⟩⟩;rw[Int.mul_one]
 done:=by intro X hP hw hK hc i pins s σ H E I hf st hg;subst hP hw hK;obtain⟨f0,f1,f2,f3,f4,f5⟩:=hf it (by simp);exact wpAny_pyNext_range_end (I.ok.hd hc) st (by have:n<=i:=hg;omega) λh' eb=>⟨rfl,I.turned (t':=s.toks) (λb o hb e=>eb b o hb e) f0 f1 f3 f4 f5⟩
 self:=λ_ _ _ _ _ st h=>wpAny_pyIter_rangeiter st h
variable {tg:Expr}
noncomputable def aPr(K:aB)(tl:TE):TI:=λσ H R=>tl σ H λx H1=>∃a,x=.ref a/\(∃xs,SqL K H1 a xs)/\R (Itl K a) H1
noncomputable def iTup(K:aB)(tl:TE):TI:=λσ H R=>tl σ H λx H1=>∃a,x=.ref a/\(∃xs,SqT K H1 a xs)/\R (Itt K a) H1
theorem aJV{l:Expr}{tl:TE}(hl:PE X l tl):PI X tg l (aPr X.K tl):=by
 intro pins s σ H R I h;refine thn (hl pins s σ H _ I h) λv s1 ⟨x,H1,I1,r1,q1⟩=> ?_
 obtain⟨a,e,⟨xs,hq⟩,q⟩:=q1;subst e;cases r1;obtain⟨its,rv,p,hz⟩:=I1.list hq;refine At p.isList ?_;refine⟨s1.heap.objs.size,[s1.heap.objs.size],_,_,H1,rfl,I1.kept (t':=s1.toks) λb o e=>aD _ e,aFS a _,⟨_,bG _ rfl,rfl,rfl⟩,λb hb=> ?_,q⟩;have e:b=s1.heap.objs.size:=by simpa using hb
 subst e;exact I1.fpOk (aP _) (I1.hok.fresh<|aP _)
theorem aOe{l:Expr}{tl:TE}(hl:PE X l tl):PI X tg l (iTup X.K tl):=by
 intro pins s σ H R I h;refine thn (hl pins s σ H _ I h) λv s1 ⟨x,H1,I1,r1,q1⟩=> ?_
 obtain⟨a,e,⟨xs,hq⟩,q⟩:=q1;subst e;cases r1;obtain⟨its,rv,p,hz⟩:=I1.tuple hq;refine wpAny_pyIter_tuple (show s1.heap.IsTuple a its.toArray from p) ?_;refine⟨s1.heap.objs.size,[s1.heap.objs.size],_,_,H1,rfl,I1.kept (t':=s1.toks) λb o e=>aD _ e,aCG a _,⟨_,bG _ rfl,rfl,rfl⟩,λb hb=> ?_,q⟩;have e:b=s1.heap.objs.size:=by simpa using hb
 subst e;exact I1.fpOk (aP _) (I1.hok.fresh<|aP _)
theorem aHn{R:It->Hp->Prop}{lo hi:Int}{t u v:Tok}{tk:Nat}(I:Inv X pins σ H s)(h1: -(2^62)<=lo)(h2:lo<2^62)(h3: -(2^62)<=hi)(h4:hi<2^62)
  (q:R (Itr lo (hi-lo).toNat) H):AI (AG X.prog X.w) X.A (pyIter<|.ref s.heap.objs.size) (PIE X pins σ tg R) E {s with heap:=s.heap.push {cls:=.type "range",data:=.fields #[.int lo t,.int hi u,.int 1 v]},toks:=tk}:=by
 refine wpAny_pyIter_range (IsRange.new ..) (small_one h1 h2 h3 h4) ?_;have I1:Inv X pins σ H {s with heap:=s.heap.push {cls:=.type "range",data:=.fields #[.int lo t,.int hi u,.int 1 v]},toks:=tk}:=I.kept λb o e=>aD _ e
 refine ⟨(s.heap.push {cls:= .type "range",data:= .fields #[.int lo t, .int hi u, .int 1 v]}).objs.size,[(s.heap.push {cls:= .type "range",data:= .fields #[.int lo t, .int hi u, .int 1 v]}).objs.size],_,_,H,rfl,
  I1.kept (t':=tk) λb o e=>aD _ e,aDb _ lo (hi-lo).toNat, ?_,λb hb=> ?_,q⟩
 ·have e1:lo+((0:Nat):Int)*1=lo:=by simp
  have e2:(((hi-lo).toNat:Nat):Int)-((0:Nat):Int)=Builtin.Range.rangeSize lo hi 1:=by rw[rangeSize_one];split<;>omega
  show IsRangeIter _ _ (lo+((0:Nat):Int)*1) ((((hi-lo).toNat:Nat):Int)-((0:Nat):Int)) 1;rw[e1,e2];exact bG _ rfl
 ·have e:b=(s.heap.push {cls:=.type "range",data:=.fields #[.int lo t,.int hi u,.int 1 v]}).objs.size:=by simpa using hb
  subst e;exact I1.fpOk (aP _) (I1.hok.fresh<|aP _)
noncomputable def aPt(ta:TA):TI:=λσ H R=>ta σ H λvs H1=>∃j:Int,vs=[.int j]/\ -(2^62)<=j/\j<2^62/\R (Itr 0 j.toNat) H1
theorem aFk{a:Expr}{ta:TA}{p:Pos}(hg:Gl X "range")(hm:X.mg "range"=none)(ha:PA X [a] ta)(hs:AF [a] X.env=[(false,eval a X.env)]:=by rfl):PI X tg (.Call (.Name "range" p) [a] [] pos) (aPt ta):=by
 intro pins s σ H R I h;refine Call_ (nF I hg hm boot_range<|PyProof.Rows.callWith_type1 (thn (ha pos pins s σ H _ I h) λus s1 ⟨vs,H1,I1,r1,q1⟩=> ?_) hs rfl);obtain⟨j,e,q1,q2,q⟩:=q1;subst e;cases r1 with
 |cons r rr=>cases rr;obtain⟨t,rfl⟩:=r;exact call_range_1 (aHn I1 (by omega) (by omega) q1 q2<|by simpa using q)
noncomputable def tFor(wi:TI)(g:TG)(tb:TS):TS:=λD σ H=>wi σ H λJ H1=>∃W:Nat->Nat->St->Hp->Prop,(∃m,W 0 m σ H1)/\∀i m σ H,W i m σ H->
 (J.stop i H/\D.nx σ H)\/(J.go i H/\∃N:St->Hp->Prop,(∀σ' H',N σ' H'->∃m',m'<m/\W (i+1) m' σ' H')/\∀x H',J.yld i H x H'->g x σ H' λσ2 H2=>tb {D with nx:=N,ct:=N,bk:=D.nx} σ2 H2)
noncomputable def oV(fp:List BJ)(h:BL):List (BJ×BM):=fp.filterMap λb=>(h.get? b).map λo=>(b,o)
theorem kC{fp:List BJ}{b:BJ}{o:BM}(hb:b∈fp)(e:h.get? b=some o):(b,o)∈oV fp h:=aHX.mpr ⟨b,hb,by rw[e];rfl⟩
theorem tY{fp:List BJ}{p:BJ×BM}(hp:p∈oV fp h):p.1∈fp/\h.get? p.1=some p.2:=by
 obtain⟨b,hb,e⟩:=aHX.mp hp;cases q:h.get? b with
 |none=>rw[q] at e;cases e
 |some o=>rw[q] at e;have e':(b,o)=p:=cA.inj e;subst e';exact⟨hb,q⟩
theorem Inv.pinned{fp:List BJ}(I:Inv X pins σ H s)(hf:∀b∈fp,yD X pins H b)(ho:∀b∈fp,∃o,s.heap.get? b=some o/\∀v,o.data≠ .cell v):Inv X (pins++oV fp s.heap) σ H s:=
 I.pins_of λp hp=>(aU.mp hp).elim (λz=>I.pin p<|aM _ z) λz=>by obtain⟨hb,e⟩:=tY z;obtain⟨f0,f1,f2,_⟩:=hf p.1 hb;obtain⟨o,e',d⟩:=ho p.1 hb;rw[e] at e';cases e';exact⟨e,f0,f1,f2,d⟩
theorem Inv.unpinned{pl:List (BJ×BM)}(I:Inv X (pins++pl) σ H s):Inv X pins σ H s:=I.pins_of λp hp=>I.pin p (aM _<|bN _ hp)
theorem aIJ{iter:Expr}{body:List BN}{wi:TI}{g:TG}{tb:TS}(hp:PassesOwn (AG X.prog X.w) X.A X.env X.xe)(hc:X.calm=true)(hi:PI X tg iter wi)(hg:PG X tg g)(hb:PSs X body tb)
  (hs:∀x,BB iter X.env x=pure x:=by intro _;rfl):PS X (.For tg iter body [] pos) (tFor wi g tb):=by
 intro pins s σ H D I h;refine wpAny_For (thn (hi pins s σ H _ I h) λv s1 h1=>thn h1 λitv s2 h2=> ?_) hs;obtain⟨it,fp,tn,J,H2,e,I2,T,st2,f2,W,⟨m0,w0⟩,turn⟩:=h2;subst e
 have stat:∀ {H':Hp},(∀b∈fp,H' b=none)->∀b∈fp,yD X pins H' b:=λhn b hb=>⟨hn b hb,(f2 b hb).2⟩
 refine codeAny_forLoop_any (λn s'=>∃i σ' H',Inv X pins σ' H' s'/\tn i s'.heap/\(∀b∈fp,H' b=none)/\W i n σ' H') ?_ m0 ⟨0,σ,H2,I2,st2,λb hb=>(f2 b hb).1,w0⟩;rintro n s3 ⟨i,σ3,H3,I3,st3,fr3,w3⟩
 rcases turn i n σ3 H3 w3 with⟨stop,qn⟩|⟨go,N,hN,step⟩
 ·refine Ar hp<|thn (T.done X rfl rfl rfl hc i pins s3 σ3 H3 X.xe I3 (stat fr3) st3 stop) λr s4 ⟨hr,I4⟩=> ?_;subst hr;exact wpAny_execs_nil ⟨σ3,H3,I4,qn⟩
 ·refine Ar hp<|thn (T.item X rfl rfl rfl hc i pins s3 σ3 H3 X.xe I3 (stat fr3) st3 go) λr s4 ⟨u,hr,h4⟩=> ?_;subst hr;refine Ar hp<|thn h4 λ_ s5 ⟨x,H5,I5,r5,y5,st5,fr5⟩=> ?_;have I5':=I5.pinned (stat fr5)<|T.obj _ _ st5;refine Ar hp<|thn (hg _ s5 σ3 H5 x u _ I5' r5<|step x H5 y5) λ_ s6 ⟨σ6,H6,I6,q6⟩=> ?_;refine Ar hp (thn (hb _ s6 σ6 H6 _ I6 q6) λf s7 q7=> ?_)
  have again:∀ {σ7:St}{H7:Hp},Inv X (pins++oV fp s5.heap) σ7 H7 s7->N σ7 H7->∃m,m<n/\∃i σ' H',Inv X pins σ' H' s7/\tn i s7.heap/\(∀b∈fp,H' b=none)/\W i m σ' H':=λ{σ7 H7} I7 n7=>by obtain⟨m',hm,w7⟩:=hN σ7 H7 n7;refine⟨m',hm,i+1,σ7,H7,I7.unpinned,T.keep _ _ _ st5 λb hb o e=>(I7.pin (b,o)<|aM _ (aM _<|kC hb e)).1,λb hb=> ?_,w7⟩;obtain⟨o,e,d⟩:=T.obj _ _ st5 b hb;exact(I7.pin (b,o)<|aM _ (aM _<|kC hb e)).2.1
  cases f with
  |next=>obtain⟨σ7,H7,I7,n7⟩:=q7;exact again I7 n7
  |cont=>obtain⟨σ7,H7,I7,n7⟩:=q7;exact again I7 n7
  |brk=>obtain⟨σ7,H7,I7,q7⟩:=q7;exact⟨σ7,H7,I7.unpinned,q7⟩
  |ret v=>obtain⟨x7,σ7,H7,I7,r7,q7⟩:=q7;exact⟨x7,σ7,H7,I7.unpinned,r7,q7⟩
noncomputable abbrev R2:=V->V->Hp->VK->Prop
def OpR(X:Cx)(f:BH->BH->Sem BH)(r:R2):Prop:=
 ∀ (pins:List (BJ×BM)) (s:BI) (σ:St) (H:Hp) (x y:V) (v u:BH) (Q:VK),Inv X pins σ H s->RelV x v->RelV y u->r x y H Q->
  AI (AG X.prog X.w) X.A (f v u) (EP X pins σ Q) X.xe s
def UnR(X:Cx)(f:BH->Sem BH)(r:V->Hp->VK->Prop):Prop:=
 ∀ (pins:List (BJ×BM)) (s:BI) (σ:St) (H:Hp) (x:V) (v:BH) (Q:VK),Inv X pins σ H s->RelV x v->r x H Q->
  AI (AG X.prog X.w) X.A (f v) (EP X pins σ Q) X.xe s
def lY(X:Cx)(f:BH)(r:List V->Hp->VK->Prop):Prop:=
 ∀ (pins:List (BJ×BM)) (s:BI) (σ:St) (H:Hp) (xs:List V) (us:List BH) (Q:VK),Inv X pins σ H s->Vals xs us->r xs H Q->
  AI (AG X.prog X.w) X.A (call f us) (EP X pins σ Q) X.xe s
noncomputable def tOp(r:R2)(ta tb:TE):TE:=λσ H Q=>ta σ H λx H1=>tb σ H1 λy H2=>r x y H2 Q
noncomputable def tUn(r:V->Hp->VK->Prop)(ta:TE):TE:=λσ H Q=>ta σ H λx H1=>r x H1 Q
noncomputable def rI(C:Int->Int->Prop)(g:Int->Int->V):R2:=λx y H Q=>∃i j,x=.int i/\y=.int j/\C i j/\Q (g i j) H
noncomputable def rI0(g:Int->Int->V):R2:=λx y H Q=>∃i j,x=.int i/\y=.int j/\Q (g i j) H
def rU(g:Int->V):V->Hp->VK->Prop:=λx H Q=>∃i,x=.int i/\Q (g i) H
variable {a c:Expr}{tc:TE}
theorem aPb(ha:PE X a ta)(hb:PE X b tb){R:V->V->Hp->Prop}(I:Inv X pins σ H s)
  (h:ta σ H λx H1=>tb σ H1 λy H2=>R x y H2) {Q:BH->BI->Prop}{f:BH->BH->Sem BH}
  (hf:∀v u s2 x y H2,Inv X pins σ H2 s2->RelV x v->RelV y u->R x y H2->AI (AG X.prog X.w) X.A (f v u) Q X.xe s2):
  AI (AG X.prog X.w) X.A (eval a X.env) (λv s₁=>AI (AG X.prog X.w) X.A (eval b X.env) (λu s₂=>AI (AG X.prog X.w) X.A (f v u) Q X.xe s₂) X.xe s₁) X.xe s:=by
 refine thn (ha pins s σ H _ I h) λv s1 ⟨x,H1,I1,r1,q1⟩=> ?_
 refine thn (hb pins s1 σ H1 _ I1 q1) λu s2 ⟨y,H2,I2,r2,q2⟩=> ?_
 exact hf v u s2 x y H2 I2 r1 r2 q2
theorem aPK{op:Operator}{r:R2}(ho:OpR X (Aj op) r)(ha:PE X a ta)(hb:PE X b tb):PE X (.BinOp a op b pos) (tOp r ta tb):=by intro pins s σ H Q I h;exact wpAny_BinOp<|aPb ha hb I h λv u s2 x y H2 I2 rx ry q=>ho pins s2 σ H2 x y v u Q I2 rx ry q
theorem aPo{op:UnaryOp}{r:V->Hp->VK->Prop}(ho:UnR X (unaryOp op) r)(ha:PE X a ta):PE X (.UnaryOp op a pos) (tUn r ta):=by intro pins s σ H Q I h;exact UnaryOp_<|thn (ha pins s σ H _ I h) λv s1 ⟨x,H1,I1,r1,q1⟩=>ho pins s1 σ H1 x v Q I1 r1 q1
theorem opI{f:BH->BH->Sem BH}{C:Int->Int->Prop}{g:Int->Int->Int}
  (rule:∀ (i j:Int) (t u:Tok) (s:BI) (Q:BH->BI->Prop) (E:BH->BI->Prop),C i j->Q (.int (g i j) s.toks) {s with toks:=s.toks+1}->AI (AG X.prog X.w) X.A (f (.int i t)<|.int j u) Q E s):
  OpR X f (rI C λi j=>.int<|g i j):=by
 intro pins s σ H x y v u Q I rx ry h;obtain⟨i,j,rfl,rfl,hc,q⟩:=h;obtain⟨t,rfl⟩:=rx;obtain⟨t',rfl⟩:=ry;exact rule i j t t' s _ _ hc ⟨.int<|g i j,H,I.tok _,⟨_,rfl⟩,q⟩
theorem aLT{f:BH->BH->Sem BH}{g:Int->Int->Int}
  (rule:∀ (i j:Int) (t u:Tok) (s:BI) (Q:BH->BI->Prop) (E:BH->BI->Prop),Q (.int (g i j) s.toks) {s with toks:=s.toks+1}->AI (AG X.prog X.w) X.A (f (.int i t)<|.int j u) Q E s):
  OpR X f (rI0 λi j=>.int<|g i j):=by
 intro pins s σ H x y v u Q I rx ry h;obtain⟨i,j,rfl,rfl,q⟩:=h;obtain⟨t,rfl⟩:=rx;obtain⟨t',rfl⟩:=ry;exact rule i j t t' s _ _ ⟨.int<|g i j,H,I.tok _,⟨_,rfl⟩,q⟩
theorem aOx{f:BH->BH->Sem BH}{g:Int->Int->Bool}
  (rule:∀ (i j:Int) (t u:Tok) (s:BI) (Q:BH->BI->Prop) (E:BH->BI->Prop),Q (.bool<|g i j) s->AI (AG X.prog X.w) X.A (f (.int i t)<|.int j u) Q E s):
  OpR X f (rI0 λi j=>.bl<|g i j):=by
 intro pins s σ H x y v u Q I rx ry h;obtain⟨i,j,rfl,rfl,q⟩:=h;obtain⟨t,rfl⟩:=rx;obtain⟨t',rfl⟩:=ry;exact rule i j t t' s _ _ ⟨.bl<|g i j,H,I,rfl,q⟩
def CDiv(i j:Int):Prop:=0<j/\j<1073741824
def CPow(i j:Int):Prop:=0<=j/\j<=1000000/\i.natAbs<2^64
def CMul(i j:Int):Prop:=(-(2^64)<i/\i<2^64)\/(-(2^64)<j/\j<2^64)
theorem CMul.ok{i j:Int}(h:CMul i j):IntMulOk i j:=by
 rcases h with⟨h1,h2⟩|⟨h1,h2⟩
 ·exact .of_left<|intBits_le_64 h1 h2
 ·exact .of_right<|intBits_le_64 h1 h2
theorem gZ:OpR X (Aj .Add) (rI0 λi j=>.int<|i+j):=aLT λ_ _ _ _ _ _ _ q=>add_int q
theorem pR:OpR X (Aj .Sub) (rI0 λi j=>.int<|i-j):=aLT λ_ _ _ _ _ _ _ q=>sub_int q
theorem aNI:OpR X (Aj .Mult) (rI CMul λi j=>.int<|i*j):=opI λ_ _ _ _ _ _ _ hc q=>mul_int q hc.ok
theorem aLa:OpR X (Aj .FloorDiv) (rI CDiv λi j=>.int<|i / j):=opI λi j _ _ _ _ _ hc q=>by have h1:(0:Int)<j:=hc.1;have h2:j<1073741824:=hc.2;exact floordiv_int (by omega) (by rw[aAE i<|by omega];exact q)<|.inl (PyProof.noPylong_small<|by omega)
theorem fM:OpR X (Aj .Mod) (rI (λ_ j=>0<j) λi j=>.int<|i%j):=opI λi j _ _ _ _ _ hc q=>by have h1:(0:Int)<j:=hc;exact mod_int' (by omega) (by rw[Int.fmod_eq_emod_of_nonneg i<|by omega];exact q)
theorem aJg:OpR X (Aj .LShift) (rI CPow λi j=>.int<|i*2^j.toNat):=opI λ_ _ _ _ _ _ _ hc q=>lshift_int_small hc.1 hc.2.1 hc.2.2 q
theorem aIY:OpR X (Aj .BitAnd) (rI0 λi j=>.int<|Builtin.bitAnd i j):=aLT λ_ _ _ _ _ _ _ q=>and_int q
theorem aMz:OpR X (Aj .BitOr) (rI0 λi j=>.int<|Builtin.bitOr i j):=aLT λ_ _ _ _ _ _ _ q=>or_int q
theorem aIy:OpR X (Aj .BitXor) (rI0 λi j=>.int<|Builtin.bitXor i j):=aLT λ_ _ _ _ _ _ _ q=>xor_int q
theorem unI{f:BH->Sem BH}{g:Int->Int}
  (rule:∀ (i:Int) (t:Tok) (s:BI) (Q:BH->BI->Prop) (E:BH->BI->Prop),Q (.int (g i) s.toks) {s with toks:=s.toks+1}->AI (AG X.prog X.w) X.A (f<|.int i t) Q E s):
  UnR X f (rU λi=>.int<|g i):=by
 intro pins s σ H x v Q I rx h;obtain⟨i,rfl,q⟩:=h;obtain⟨t,rfl⟩:=rx;exact rule i t s _ _ ⟨.int<|g i,H,I.tok _,⟨_,rfl⟩,q⟩
theorem aMR:UnR X (unaryOp .USub) (rU λi=>.int (-i)):=unI λ_ _ _ _ _ q=>neg_int q
noncomputable def aOV:V->V->Bool
 |.non,.non=>true | .non,.int _=>true | .int _,.non=>true | .non,.bl _=>true | .bl _,.non=>true | .non,.str _=>true | .str _,.non=>true
 |.int _,.int _=>true | .bl _,.bl _=>true | .str _,.str _=>true | .byt _,.byt _=>true
 |.int _,.str _=>true | .str _,.int _=>true | .bl _,.str _=>true | .str _,.bl _=>true
 |_,_=>false
noncomputable def rEq:R2:=λx y H Q=>aOV x y=true/\Q (.bl (decide<|x=y)) H
theorem aAJ{i j:Int}:decide (V.int i=V.int j)=(i==j):=by rw[gI];simp
theorem aOf{i j:Bool}:decide (V.bl i=V.bl j)=(i==j):=by rw[gI];simp
theorem aKo{i j:Str}:decide (V.str i=V.str j)=(i==j):=by rw[gI];simp
theorem aKu{i j:Array UInt8}:decide (V.byt i=V.byt j)=(i.toList==j.toList):=by rw[gI];cases i;cases j;simp
theorem jK{Q:VK}{k k':Bool}(I:Inv X pins σ H s)(q:Q (.bl k) H)(e:k=k'):EP X pins σ Q (.bool k') s:=by subst e;exact⟨.bl k,H,I,rfl,q⟩
theorem aJI:OpR X (AS .Eq) rEq:=by
 intro pins s σ H x y v u Q I rx ry h;obtain⟨hs,q⟩:=h;cases x with
 |non=>
  cases rx;cases y with
  |non=>cases ry;exact PySem.EqNone.eq_none_none (jK I q<|by simp)
  |bl j=>cases ry;exact PySem.EqNone.eq_none_bool (jK I q<|by simp)
  |int j=>obtain⟨t',rfl⟩:=ry;exact PySem.EqNone.eq_none_int (jK I q<|by simp)
  |str j=>obtain⟨t',rfl⟩:=ry;exact PySem.EqNone.eq_none_str (jK I q<|by simp)
  |_=>exact absurd (show false=true from hs) bY
 |bl i=>
  cases rx;cases y with
  |non=>cases ry;exact PySem.EqNone.eq_bool_none (jK I q<|by simp)
  |bl j=>cases ry;exact eq_bool<|jK I q aOf
  |str j=>obtain⟨t',rfl⟩:=ry;exact PySem.EqMixed.eq_bool_str (jK I q<|by simp)
  |_=>exact absurd (show false=true from hs) bY
 |int i=>
  obtain⟨t,rfl⟩:=rx;cases y with
  |non=>cases ry;exact PySem.EqNone.eq_int_none (jK I q<|by simp)
  |int j=>obtain⟨t',rfl⟩:=ry;exact eq_int<|jK I q aAJ
  |str j=>obtain⟨t',rfl⟩:=ry;exact PySem.EqMixed.eq_int_str (jK I q<|by simp)
  |_=>exact absurd (show false=true from hs) bY
 |str i=>
  obtain⟨t,rfl⟩:=rx;cases y with
  |non=>cases ry;exact PySem.EqNone.eq_str_none (jK I q<|by simp)
  |bl j=>cases ry;exact PySem.EqMixed.eq_str_bool (jK I q<|by simp)
  |int j=>obtain⟨t',rfl⟩:=ry;exact PySem.EqMixed.eq_str_int (jK I q<|by simp)
  |str j=>obtain⟨t',rfl⟩:=ry;exact eq_str<|jK I q aKo
  |_=>exact absurd (show false=true from hs) bY
 |byt i=>
  obtain⟨t,rfl⟩:=rx;cases y with
  |byt j=>obtain⟨t',rfl⟩:=ry;exact PySem.W.eq_bytes<|jK I q aKu
  |_=>exact absurd (show false=true from hs) bY
 |_=>cases y<;>exact absurd (show false=true from hs) bY
theorem zW:OpR X (AS .Lt) (rI0 λi j=>.bl (decide<|i<j)):=aOx λ_ _ _ _ _ _ _ q=>lt_int q
theorem aDu:OpR X (AS .LtE) (rI0 λi j=>.bl (decide<|i<=j)):=aOx λ_ _ _ _ _ _ _ q=>le_int q
theorem aJH:OpR X (AS .Gt) (rI0 λi j=>.bl (decide<|j<i)):=aOx λ_ _ _ _ _ _ _ q=>gt_int q
theorem aPc:OpR X (AS .GtE) (rI0 λi j=>.bl (decide<|j<=i)):=aOx λ_ _ _ _ _ _ _ q=>ge_int q
theorem aIM:OpR X (AS .Is) (λx y H Q=>y=.non/\Q (.bl (decide<|x=.non)) H):=by
 intro pins s σ H x y v u Q I rx ry h;obtain⟨rfl,q⟩:=h;cases ry;refine is_none_gen<|jK I q ?_
 cases x<;>first
  |(cases rx;rfl)
  |(obtain⟨t,rfl⟩:=rx;rfl)
theorem aLf:OpR X (AS .IsNot) (λx y H Q=>y=.non/\Q (.bl<|!decide (x=.non)) H):=by
 intro pins s σ H x y v u Q I rx ry h;obtain⟨rfl,q⟩:=h;cases ry;refine isnot_none_gen<|jK I q ?_
 cases x<;>first
  |(cases rx;rfl)
  |(obtain⟨t,rfl⟩:=rx;rfl)
theorem OpR.or{f:BH->BH->Sem BH}{r r':R2}(h:OpR X f r)(h':OpR X f r'):OpR X f (λx y H Q=>r x y H Q\/r' x y H Q):=by
 intro pins s σ H x y v u Q I rx ry q
 rcases q with q|q
 ·exact h pins s σ H x y v u Q I rx ry q
 ·exact h' pins s σ H x y v u Q I rx ry q
theorem iI(b:Expr){op:CmpOp}(h:op≠ .In:=by decide)(h2:op≠ .NotIn:=by decide):AT op b=false:=by
 have e1:(op==CmpOp.In)=false:=by cases op<;>first|rfl|exact absurd rfl h
 have e2:(op==CmpOp.NotIn)=false:=by cases op<;>first|rfl|exact absurd rfl h2
 cases b<;>simp[AT,e1,e2]
theorem aEu{op:CmpOp}{r:R2}(ho:OpR X (AS op) r)(ha:PE X a ta)(hb:PE X b tb)(hm:AT op b=false):PE X (.Compare a [op] [b] pos) (tOp r ta tb):=by intro pins s σ H Q I h;exact wpAny_Compare1 (aPb ha hb I h λv u s2 x y H2 I2 rx ry q=>ho pins s2 σ H2 x y v u Q I2 rx ry q) hm
noncomputable def aPf(t:TE):TT:=λσ H Q=>t σ H λx H'=>∃k,x=.bl k/\Q k H'
theorem vD{op:CmpOp}{r:R2}(ho:OpR X (AS op) r)(ha:PE X a ta)(hb:PE X b tb)(hm:AT op b=false):PT X (.Compare a [op] [b] pos) (aPf<|tOp r ta tb):=by
 intro pins s σ H Q I h
 refine wpAny_isTrue_Compare1 (thn (ha pins s σ H _ I h) λv s1 ⟨x,H1,I1,r1,q1⟩=>thn (hb pins s1 σ H1 _ I1 q1) λu s2 ⟨y,H2,I2,r2,q2⟩=>thn (ho pins s2 σ H2 x y v u _ I2 r1 r2 q2) λc s3 ⟨z,H3,I3,r3,k,e,q3⟩=> ?_) hm
 subst e;cases r3;exact Aa ⟨H3,I3,q3⟩
noncomputable def aNq(r r':R2)(ta tb tc:TE):TE:=λσ H Q=>ta σ H λx H1=>tb σ H1 λy H2=>r x y H2 λz H3=>∃k,z=.bl k/\
 (if k=true then tc σ H3 λw' H4=>r' y w' H4 Q else Q (.bl false) H3)
theorem aHA{op op':CmpOp}{r r':R2}(ho:OpR X (AS op) r)(ho':OpR X (AS op') r')(ha:PE X a ta)(hb:PE X b tb)(hc:PE X c tc)
  (hm:lastMarks [op,op'] [b,c]=false:=by with_unfolding_all rfl):PE X (.Compare a [op,op'] [b,c] pos) (aNq r r' ta tb tc):=by
 intro pins s σ H Q I h
 refine Compare_chain (thn (ha pins s σ H _ I h) λv s1 ⟨x,H1,I1,r1,q1⟩=>chain_link<|thn (hb pins s1 σ H1 _ I1 q1) λu s2 ⟨y,H2,I2,r2,q2⟩=>thn (ho pins s2 σ H2 x y v u _ I2 r1 r2 q2) λd s3 ⟨z,H3,I3,r3,k,e,q3⟩=> ?_) hm
 subst e;cases r3;refine Aa ?_;cases k with
 |false=>exact ite_ff ⟨.bl false,H3,I3,rfl,q3⟩
 |true=>exact ite_tt (chain_last<|thn (hc pins s3 σ H3 _ I3 q3) λw' s4 ⟨z',H4,I4,r4,q4⟩=>ho' pins s4 σ H4 y z' u w' Q I4 r2 r4 q4)
theorem aDL:(AN:Nat)<2^63:=by rw[Ah];decide
theorem nN{x:V}{us:List BH}(r:Vals [x] us):∃u,us=[u]/\RelV x u:=by
 cases r with
 |cons r1 r2=>cases r2;exact⟨_,rfl,r1⟩
theorem aPh{x y:V}{us:List BH}(r:Vals [x,y] us):∃u w',us=[u,w']/\RelV x u/\RelV y w':=by
 cases r with
 |cons r1 r2=>
  cases r2 with
  |cons r3 r4=>cases r4;exact⟨_,_,rfl,r1,r3⟩
structure ObjM(h:BL)(x dx C:BJ)(mA:Str->Option BH):Prop where
 obj:h.get? x=some (vB C dx)
 ns:h.Ns1 dx mA
 ne:dx≠x
theorem aFB{dx:BJ}{mA:Str->Option BH}(n:h.Ns1 dx mA):∃od,h.get? dx=some od/\∀name,yX name od=some (mA name):=by
 obtain⟨o,es,ep,ho,hd,hk,_,hm⟩:=n;refine⟨o,ho,λname=> ?_⟩;have e:=hm name;unfold nsFind findBy at e;rw[<-Array.find?_toList] at e;unfold yX;rw[hd];dsimp only
 split
 ·rename_i y q;rw[q] at e;exact congrArg some e
 ·rename_i q;rw[q] at e
  have a:es.toList.any (·.refKey)=false:=by rw[aJn];intro y hy;obtain⟨z,t,hkey⟩:=hk y<|qS.mp hy;simp[DictEntry.refKey,hkey]
  have a':¬ es.toList.any (·.refKey)=true:=by rw[a];exact bY
  rw[if_neg a'];exact congrArg some e
theorem ObjM.look{dx C:BJ}{mA:Str->Option BH}(I:ObjM h x dx C mA):∃od,PySem.W.InstAt h x (vB C dx) C (some od)/\∀name,yX name od=some (mA name):=
 let ⟨od,ho,hl⟩:=aFB I.ns
 ⟨od,⟨I.obj,rfl,rfl,ho⟩,hl⟩
theorem RelO.some_of{v:V}{o:Option BH}(r:RelO (some v) o):∃u,o=some u/\RelV v u:=by
 cases o with
 |none=>exact(show False from r).elim
 |some u=>exact⟨u,rfl,r⟩
variable {a C dx:BJ}{fs fs':List (Str×V)}
theorem aKk(hok:HOk P w H h)(e:H a=some (.ins C dx fs)):∃mA,ObjM h a dx C mA/\(∀f,RelO (fs.lookup f)<|mA f)/\PySem.Within mA (fs.map (·.1))/\fs.length<=1000/\H dx=some (.own a):=by obtain⟨d,z,ne,ob,mA,n,r,q⟩:=(show ObjOk P w H h a (.ins C dx fs) from hok a _ e);exact⟨mA,⟨ob,n,ne⟩,r,q,z,d⟩
structure Cls(K:aB)(C:BJ):Prop where
 pg:aGz K C Str.empty=true
 hd:PySem.W.hasDictIn K C=true
 po:PySem.W.plainOver K C=true
 sa:mV K (.ref C) "__setattr__"=some (some<|.builtin "object.__setattr__")
theorem Cls.get{K:aB}(c:Cls K C)(f:Str):aGz K C f=true:=c.pg
structure Con(K:aB)(C:BJ)(f:Str)(v:V)(u:BH):Prop where
 at_:mV K (.ref C) f=some (some u)
 rel:RelV v u
 get:aGp K u "__get__"=some none
 cp:PySem.W.copiedNames.contains f=false
structure Meth(K:aB)(C:BJ)(m:Str)(f:BJ):Prop where
 at_:mV K (.ref C) m=some (some<|.ref f)
 fn:aLN K (.ref f)=true
 kp:eG K (.ref f)=true
variable {A:BK}{Q:BH->BI->Prop}{c:BH}{b:Bool}
inductive sI(K:aB)(H:Hp):V->BH->Prop where
 |non:sI K H .non (.type "NoneType")
 |bl (x:Bool):sI K H (.bl x) (.type "bool")
 |int (i:Int):sI K H (.int i) (.type "int")
 |str (x:Str):sI K H (.str x) (.type "str")
 |flt (x:UInt64):sI K H (.flt x) (.type "float")
 |lst {a:BJ}{xs:List V} (e:H a=some (.lst xs)):sI K H (.ref a) (.type "list")
 |frz {a:BJ}{o:BM}{xs:List V} (e:H a=some (.frz o<|.lst xs)):sI K H (.ref a) (.type "list")
 |tup {a:BJ}{xs:List V} (e:H a=some (.tup xs)):sI K H (.ref a) (.type "tuple")
 |dK {a:BJ}{kvs:List (Key×V)} (e:Rd H a (.dK kvs)):sI K H (.ref a) (.type "dict")
 |dT {a:BJ}{kvs:List (List Key×V)} (e:H a=some (.dT kvs)):sI K H (.ref a) (.type "dict")
 |ins {a C dx:BJ}{fs:List (Str×V)} (e:H a=some (.ins C dx fs)) (cl:Cls K C) (ha:mV K (.ref C) "__class__"=some (some<|.builtin "object.__class__"))
   (hn:aGp K (.builtin "object.__class__") "__get__"=some (some<|.builtin "getset_descriptor.__get__")) (htk:PySem.W.takesIn K (.builtin "object.__class__")=some true)
   (hm:PySem.W.mroIn K C (.type "object")=some true):sI K H (.ref a) (.ref C)
theorem aFV{x:V}{u t:BH}(I:Inv X pins σ H s)(rx:RelV x u)(ty:sI X.K H x t)(e:gB X.K t c=some b)(h:∀tk,Q (.bool b) {s with toks:=tk}):
  AI (AG X.prog X.w) A (call (.builtin "isinstance") [u,c]) Q E s:=by
 cases ty with
 |non=>cases(show u=Value.none from rx);exact fW PySem.W.kitx_none I.kIn True.intro e (λz=>nomatch z) h
 |bl y=>cases(show u=Value.bool y from rx);exact fW PySem.W.kitx_bool I.kIn True.intro e (λz=>nomatch z) h
 |int i=>obtain⟨t,q⟩:=(show ∃t,u=Value.int i t from rx);cases q;exact fW PySem.W.kitx_int I.kIn True.intro e (λz=>nomatch z) h
 |str y=>obtain⟨t,q⟩:=(show ∃t,u=Value.str y t from rx);cases q;exact fW PySem.W.kitx_str I.kIn True.intro e (λz=>nomatch z) h
 |flt y=>obtain⟨t,q⟩:=(show ∃t,u=Value.float y t from rx);cases q;exact fW PySem.W.kitx_float I.kIn True.intro e (λz=>nomatch z) h
 |@lst a xs ea=>cases(show u=Value.ref a from rx);obtain⟨_,_,n,_,h1⟩:=(show ObjOk X.prog X.w H s.heap a (.lst xs) from I.hok a _ ea);exact fW aGq I.kIn ⟨_,h1,rfl⟩ e (λz=>nomatch z) h
 |@frz a ob xs ea=>cases(show u=Value.ref a from rx);obtain⟨_,_,_,n,_,h1⟩:=(show ObjOk X.prog X.w H s.heap a (.frz ob<|.lst xs) from I.hok a _ ea);exact fW aGq I.kIn ⟨_,h1,rfl⟩ e (λz=>nomatch z) h
 |@tup a xs ea=>cases(show u=Value.ref a from rx);obtain⟨_,_,_,p⟩:=(show ObjOk X.prog X.w H s.heap a (.tup xs) from I.hok a _ ea);obtain⟨o,h1,h2,_⟩:=p;exact fW PySem.W.kitx_tuple I.kIn ⟨o,h1,h2⟩ e (λz=>nomatch z) h
 |@dK a kvs ea=>cases(show u=Value.ref a from rx);obtain⟨_,_,vs,_,p⟩:=(show ObjOk X.prog X.w H s.heap a (.dK kvs) from ea.ok I.hok);obtain⟨o,es,ep,h1,h2,_⟩:=p;exact fW aGr I.kIn ⟨o,h1,h2.1⟩ e (λz=>nomatch z) h
 |@dT a kvs ea=>cases(show u=Value.ref a from rx);obtain⟨_,_,xs,_,o,es,ep,h1,h2,_⟩:=(show ObjOk X.prog X.w H s.heap a (.dT kvs) from I.hok a _ ea);exact fW aGr I.kIn ⟨o,h1,h2.1⟩ e (λz=>nomatch z) h
 |@ins a C dx fs ea cl ha hn htk hm=>cases(show u=Value.ref a from rx);obtain⟨mA,O,_⟩:=aKk I.hok ea;obtain⟨od,J,_⟩:=O.look;exact fW (PySem.W.kitx_own (cl.get _) cl.hd ha hn htk hm) I.kIn J e (λz=>nomatch z) h
structure Room(k:Nat)(A:BK):Prop where
 hd:A.handled=none
 dp:A.depth+3*k+5<recursionLimit
 un:A.units+16*k+200<AQ
 gd:A.guards=some []
theorem Room.mono{j k:Nat}(r:Room k A)(h:j<=k):Room j A:=⟨r.hd,by have:=r.dp;omega,by have:=r.un;omega,r.gd⟩
theorem Room.deeper{k:Nat}(r:Room (k+1) A)(env:Env):Room k (A.deeper env):=
 ⟨r.hd,by have:=r.dp;show A.depth+1+3*k+5<_;omega,by have:=r.un;show A.units+3+16*k+200<_;omega,r.gd⟩
theorem Room.depth{k:Nat}(r:Room k A):A.depth<recursionLimit:=by have:=r.dp;omega
noncomputable def aIf:TA:=λ_ H Q=>Q [] H
noncomputable def qT(ta:TE)(tr:TA):TA:=λσ H Q=>ta σ H λx H1=>tr σ H1 λxs H2=>Q (x::xs) H2
variable {es:List Expr}{t:TA}
theorem pa_nil:PA X [] aIf:=λ_ _ _ _ H Q I h=>Calls.spliced_nil ⟨[],H,I,.nil,h⟩
theorem iH(ha:PE X e te)(hr:PA X es t)(hs:AF (e::es) X.env=(false,eval e X.env)::AF es X.env:=by rfl):PA X (e::es) (qT te t):=by intro pos pins s σ H Q I h;rw[hs];show AI _ _ (spliced ((false,eval e X.env)::Au pos (AF es X.env))) _ _ s;refine Calls.spliced_cons<|thn (ha pins s σ H _ I h) λu s1 ⟨x,H1,I1,r1,q1⟩=> ?_;exact thn (hr pos pins s1 σ H1 _ I1 q1) λus s2 ⟨xs,H2,I2,r2,q2⟩=>⟨x::xs,H2,I2,.cons r1 r2,q2⟩
noncomputable def aQx(t:TA):TE:=λσ H Q=>t σ H λxs H1=>xs.length<=AN/\∀p,H1 p=none->Q (.ref p) (upd H1 p<|.tup xs)
noncomputable def tLst(t:TA):TE:=λσ H Q=>t σ H λxs H1=>xs.length<=AN/\∀p,H1 p=none->Q (.ref p) (upd H1 p<|.lst xs)
theorem aIH{x1}(h:PA X es t):PE X (.Tuple es x1 pos) (aQx t):=by intro pins s σ H Q I hq;refine wpAny_Tuple_spliced<|thn (h pos pins s σ H _ I hq) λus s1 ⟨xs,H1,I1,r,z,q⟩=>⟨by rw[<-r.length];exact z, ?_⟩;have hf:H1 s1.heap.objs.size=none:=I1.hok.fresh<|aP _;refine⟨.ref s1.heap.objs.size,upd H1 s1.heap.objs.size<|.tup xs,I1.laid (t':=s1.toks) (λb u e=>aD _ e) (aP _) ?_,rfl,q _ hf⟩;exact⟨z,us,r,IsTupD.new _ _⟩
theorem aNm(h:PA X es t):PE X (.List es pos) (tLst t):=by intro pins s σ H Q I hq;refine wpAny_List_spliced<|thn (h pos pins s σ H _ I hq) λus s1 ⟨xs,H1,I1,r,z,q⟩=>⟨by rw[<-r.length];exact z, ?_⟩;have hf:H1 s1.heap.objs.size=none:=I1.hok.fresh<|aP _;refine⟨.ref s1.heap.objs.size,upd H1 s1.heap.objs.size<|.lst xs,I1.laid (t':=s1.toks) (λb u e=>aD _ e) (aP _) ?_,rfl,q _ hf⟩;exact⟨z,us,0,r,bG _ rfl⟩
noncomputable abbrev Sp:=List V->Hp->VK->XK->Prop
noncomputable abbrev CXT:=List Env->Hp->BI->XK->BH->BI->Prop
structure aLE(P:AD)(w:AL)(K:aB)(mg:Str->Option BH)(base:BL)(A:BK)(outer:List Env)(s:BI)(H:Hp):Prop where
 frames:A.frames=some outer
 mod:Mod K mg base
 bs:∀b o,base.get? b=some o->s.heap.get? b=some o/\H b=none
 bsz:base.objs.size<=s.heap.objs.size
 funs:s.heap.FunFrames base outer
 frf:∀b∈frs outer,H b=none
 hok:HOk P w H s.heap
 bare:AllBare s.gens
def CE(outer:List Env)(P:AD)(w:AL)(H:Hp)(s:BI)(Q:VK)(u:BH)(s':BI):Prop:=
 ∃v H',s'.os=s.os/\AllBare s'.gens/\Un (frs outer) [] H H' s.heap s'.heap/\HOk P w H' s'.heap/\RelV v u/\Q v H'
def CR(CX:CXT)(outer:List Env)(P:AD)(w:AL)(H:Hp)(s:BI)(Q:VK)(E:XK)(r:Result)(s':BI):Prop:=
 match r with
 |.ok (.ret u)=>CE outer P w H s Q u s'
 |.ok _=>False
 |.error e=>CX outer H s E e s'
structure FnOk(P:AD)(w:AL)(K:aB)(mg:Str->Option BH)(base:BL)(CX:CXT)(k:Nat)(f:BJ)(fd:AW)(ps:List Str)(sp:Sp):Prop where
 len:∀vs H Q E,sp vs H Q E->vs.length=ps.length
 run:∀ (A:BK) (outer:List Env) (s:BI) (H:Hp) (args:Args) (us:List BH) (vs:List V) (Q:VK) (E:XK),Room k A->aLE P w K mg base A outer s H->BindsTo s fd args (ps.zip us)->Vals vs us->sp vs H Q E->
  codeAny (AG P w) A (.call (.ref f) args) (CR CX outer P w H s Q E) s
variable {s':BI}
theorem Inv.env0(I:Inv X pins σ H s):aLE X.prog X.w X.K X.mg X.base X.A X.stack s H:=
 ⟨I.ok.frames,I.ok.mod,I.bs,cJ I.ok.bsz I.sz,I.stack,I.stkFree,I.hok,I.bare⟩
theorem Inv.after{Q:VK}{u:BH}(I:Inv X pins σ H s)(h:CE X.stack X.prog X.w H s Q u s'):EP X pins σ Q u s':=by obtain⟨v,H',os,bare,un,hok,r,q⟩:=h;obtain⟨hh,g,d,t,os'⟩:=s';obtain rfl:os'=s.os:=os;exact⟨v,H',I.call (h':=hh) (g':=g) (d':=d) (t':=t) (ch:=[]) un hok bare (λb z=>absurd z<|by simp),r,q⟩
noncomputable def aPp(sp:Sp)(dvs:List V)(E:XK)(t:TA):TE:=λσ H Q=>t σ H λvs H1=>sp (vs++dvs) H1 Q E
def Binds(K:aB)(fd:AW)(ps:List Str)(ds:List BH):Prop:=
 ∀ (s:BI) (us:List BH),K.In s.heap->(us++ds).length=ps.length->BindsTo s fd ⟨us,[]⟩ (ps.zip<|us++ds)
theorem Binds.all{K:aB}{fd:AW}{ps:List Str}(h:∀us:List BH,us.length=ps.length->bindArgs fd ⟨us,[]⟩=pure (ps.zip us)):Binds K fd ps []:=λs us _ hl=>by rw[cY] at hl ⊢;exact .of_eq<|h us hl
def aDy(CX:CXT)(X:Cx)(E:XK):Prop:=∀ (pins:List (BJ×BM)) (σ:St) (H:Hp) (s:BI) (e:BH) (s':BI),Inv X pins σ H s->CX X.stack H s E e s'->X.xe e s'
variable {CX:CXT}{k:Nat}{f:BJ}{fd:AW}{ps:List Str}{sp:Sp}{dvs:List V}{ds:List BH}{E:XK}{x m:Str}{p apos:Pos}{o:Expr}
theorem aOi{Q:VK}{us:List BH}{vs:List V}(F:FnOk X.prog X.w X.K X.mg X.base CX k f fd ps sp)(hr:Room k X.A)(hb:Binds X.K fd ps ds)(hd:Vals dvs ds)(hx:aDy CX X E)
  (I:Inv X pins σ H s) (r:Vals vs us) (h:sp (vs++dvs) H Q E):AI (AG X.prog X.w) X.A (call (.ref f) us) (EP X pins σ Q) X.xe s:=by
 have r2:Vals (vs++dvs) (us++ds):=r.append hd;have hl:(us++ds).length=ps.length:=by rw[<-r2.length];exact F.len _ _ _ _ h
 refine wpAny_call<|Aw (F.run X.A X.stack s H ⟨us,[]⟩ (us++ds) (vs++dvs) Q E hr I.env0 (hb s us I.kIn hl) r2 h) λr s' hq=> ?_;cases r with
 |error e=>exact hx pins σ H s e s' I hq
 |ok fl=>
  cases fl with
  |ret u=>exact I.after hq
  |next=>exact False.elim hq
  |brk=>exact False.elim hq
  |cont=>exact False.elim hq
theorem aEI(F:FnOk X.prog X.w X.K X.mg X.base CX k f fd ps sp)(hr:Room k X.A)(hg:Gl X x)(hm:X.mg x=some (.ref f))(hk:eG X.K (.ref f)=true)(hb:Binds X.K fd ps ds)(hd:Vals dvs ds)(hx:aDy CX X E)
  (ha:PA X (e::es) t) (hdb:(x==("__debug__":Str))=false:=by decide) (he:AF (e::es) X.env=(false,eval e X.env)::AF es X.env:=by rfl) (hpl:(Au pos<|AF es X.env).any (·.1)=false:=by rfl):
  PE X (.Call (.Name x p) (e::es) [] pos) (aPp sp dvs E t):=by
 intro pins s σ H Q I h;refine Ad<|aEn I hg hm ?_ hdb;refine PySem.W.callWith_K (h₀:=X.base) I.ok.mod.kin hk (thn (ha pos pins s σ H _ I h) λus s1 ⟨vs,H1,I1,r,q⟩=>⟨I1.kIn, ?_⟩) he hpl;exact aOi F hr hb hd hx I1 r q
structure Mk(K:aB)(C f:BJ):Prop where
 makes:PySem.W.makesIn K C=true
 init:mV K (.ref C) "__init__"=some (some<|.ref f)
 fn:aLN K (.ref f)=true
 kp:eG K (.ref C)=true
section
variable {X:Cx}{CX:CXT}{k:Nat}{f C:BJ}{fd:AW}{ps ks:List Str}{sp:Sp}{E:XK}{x m:Str}{p pos apos kpos:Pos}{e o:Expr}{es:List Expr}{kws:List Keyword}{te ta:TE}{t tk:TA}{nm:Option Str}
structure aQP(K:aB)(fd:AW)(ps ks:List Str)(g:List BH->List BH->List BH)(gV:List V->List V->List V):Prop where
 to:∀ (s:BI) (us ws:List BH),K.In s.heap->(g us ws).length=ps.length->BindsTo s fd ⟨us,ks.zip ws⟩ (ps.zip<|g us ws)
 rel:∀ {vs:List V}{us:List BH}{zs:List V}{ws:List BH},Vals vs us->Vals zs ws->Vals (gV vs zs) (g us ws)
variable {g:List BH->List BH->List BH}{gV:List V->List V->List V}
end
structure pB(N P:List Str)(sc:Scope):Prop where
 kind:sc.kind=.function
 co:sc.isCoroutine=false
 gen:sc.isGenerator=false
 nd:N.Nodup
 pre:N.take P.length=P
 par:∀x∈P,sc.names.lookup x=some .local\/sc.names.lookup x=some .cell
 nofree:∀y∈sc.names,y.2≠ .free
theorem aAp{kindOf:Str->Option NameKind}{x:Str}:∀ {binds:List (Str×BH)}{m:Str->Option BH},(∀v,(x,v)∉binds)->bindL kindOf binds m x=m x
 |[],_,_=>rfl
 |(n,v)::r,m,h=>by
  unfold bindL;rw[aAp λw hw=>h w<|aI _ hw]
  split
  ·have:x≠n:=by rintro rfl;exact h v aH
   simp[this]
  ·rfl
theorem zT{kindOf:Str->Option NameKind}{x:Str}:∀ {binds:List (Str×BH)}{m:Str->Option BH},(∀v,(x,v)∉binds)->bindC kindOf binds m x=m x
 |[],_,_=>rfl
 |(n,v)::r,m,h=>by
  unfold bindC;rw[zT λw hw=>h w<|aI _ hw]
  split
  ·rfl
  ·have:x≠n:=by rintro rfl;exact h v aH
   simp[this]
theorem aAg{kindOf:Str->Option NameKind}{x:Str}{v:BH}:∀ {P:List Str}{vs:List BH}{i:Nat}{m:Str->Option BH},P.Nodup->P[i]? =some x->vs[i]? =some v->kindOf x=some .local->
  bindL kindOf (P.zip vs) m x=some v
 |[],_,_,_,_,h,_,_=>by simp at h
 |_::_,[],_,_,_,_,h,_=>by simp at h
 |p::P,w::vs,0,m,nd,h1,h2,hk=>by simp at h1 h2;subst h1;subst h2;show bindL kindOf ((p,w)::P.zip vs) m p=_;unfold bindL;rw[aAp λv hv=>(cC.mp nd).1 (yY hv).1,if_pos hk];simp
 |p::P,w::vs,i+1,m,nd,h1,h2,hk=>by show bindL kindOf ((p,w)::P.zip vs) m x=_;unfold bindL;exact aAg (i:=i) (cC.mp nd).2 (by simpa using h1) (by simpa using h2) hk
theorem zV{kindOf:Str->Option NameKind}{x:Str}{v:BH}:∀ {P:List Str}{vs:List BH}{i:Nat}{m:Str->Option BH},P.Nodup->P[i]? =some x->vs[i]? =some v->kindOf x≠some .local->
  bindC kindOf (P.zip vs) m x=some v
 |[],_,_,_,_,h,_,_=>by simp at h
 |_::_,[],_,_,_,_,h,_=>by simp at h
 |p::P,w::vs,0,m,nd,h1,h2,hk=>by simp at h1 h2;subst h1;subst h2;show bindC kindOf ((p,w)::P.zip vs) m p=_;unfold bindC;rw[zT λv hv=>(cC.mp nd).1 (yY hv).1,if_neg hk];simp
 |p::P,w::vs,i+1,m,nd,h1,h2,hk=>by show bindC kindOf ((p,w)::P.zip vs) m x=_;unfold bindC;exact zV (i:=i) (cC.mp nd).2 (by simpa using h1) (by simpa using h2) hk
noncomputable def start(N:List Str)(vs:List V):St:=vs.map some++gS (N.length-vs.length) none
noncomputable def nG(CX:CXT)(P:AD)(w:AL)(K:aB)(mg:Str->Option BH)(base:BL)(N:List Str)(qual:Str)(scope:Scope)(f:BJ)(cd:BH)(A:BK)(outer:List Env)(s:BI)(H:Hp)(E:XK):Cx where
 prog:=P
 w:=w
 K:=K
 mg:=mg
 base:=base
 A:=A.deeper<|Af qual scope s.heap.objs.size f cd
 N:=N
 s₀:=s
 H₀:=H
 env:=Af qual scope s.heap.objs.size f cd
 outer:=outer
 stack:=Af qual scope s.heap.objs.size f cd::outer
 ex:=[]
 calm:=true
 fn:=λ_=>true
 pn:=[]
 xe:=λe s'=>AI (AG P w) (A.deeper<|Af qual scope s.heap.objs.size f cd) (leaving (Af qual scope s.heap.objs.size f cd) e) (λ_ s''=>CX outer H s E e s'') (λe' s''=>CX outer H s E e' s'') s'
theorem aCo{sc:Scope}{n:Nat}(h:sc.names.lookup x=some .cell):∃c,(cellsFrom n sc.names []).lookup x=some c:=by have q:=aAH sc.names n []<|.inl h;exact Option.isSome_iff_exists.mp q
theorem aFO{K:aB}{mg:Str->Option BH}{base:BL}{N:List Str}{qual:Str}{scope:Scope}{cd:BH}{outer:List Env}{s1:BI}{us:List BH}{vs:List V}
  (S:pB N ps scope) (hd:A.handled=none) (e0:aLE P w K mg base A outer s H) (hl:vs.length=ps.length) (r:Vals vs us)
  (x:InCallC s s.heap.objs.size (bindL (Af qual scope s.heap.objs.size f cd).kindOf (ps.zip us) λ_=>none) (cellsFrom (s.heap.objs.size+1) scope.names []) (bindC (Af qual scope s.heap.objs.size f cd).kindOf (ps.zip us) λ_=>none) s1):
  Inv (nG CX P w K mg base N qual scope f cd A outer s H E) [] (start N vs) H s1:=by
 have hpl:ps.length<=N.length:=by have:=congrArg oM S.pre;rw[cO] at this;omega
 obtain⟨h1,tk,rfl,hk⟩:=x.done;have noA:∀b:BJ,b∉(nG CX P w K mg base N qual scope f cd A outer s H E).ex:=λb z=>absurd (show b∈([]:List BJ) from z)<|by simp
 refine ⟨⟨e0.mod,S.kind,rfl,rfl,aP _,fun y z c h1 h2=> ?_,fun y hy=> ?_,fun y c _ h=> ?_,fun _=>hd,Around.frames_deeper e0.frames, .inr ⟨rfl,rfl⟩,fun b z=>absurd z (noA b),e0.bs,e0.bsz,fun b _ _=>noA b,fun b z=>absurd z (noA b),e0.funs,e0.frf⟩,
  rfl,e0.bare,Un.kept hk,⟨_,x.toInCall.ns,λi y v h1 h2 h3=> ?_⟩,λy c h=>⟨_,x.cell y c h⟩,e0.hok.fresh (aP _),λy c h=> ?_,λp hp=>absurd (show p∈([]:List (BJ×BM)) from hp) (by simp),e0.hok.kept hk, ?_⟩
 ·exact name_of_addr x.apart (PySem.mem_of_lookup h1)<|PySem.mem_of_lookup h2
 ·have hy:scope.names.lookup y=some .cell\/scope.names.lookup y=some .free:=hy
  rcases hy with hy|hy
  ·exact aCo hy
  ·exact absurd rfl (S.nofree _<|PySem.mem_of_lookup hy)
 ·exact dG (x.above y c<|PySem.mem_of_lookup h)
 ·have hi:i<vs.length:=by
   unfold start at h2
   by_cases hi:i<vs.length
   ·exact hi
   ·rw[gF<|by simpa using hi] at h2;rw[List.getElem?_replicate] at h2
    split at h2<;>cases h2
  have ha:vs[i]? =some v:=by
   unfold start at h2;rw[gK (by simpa using hi),bA] at h2;cases e:vs[i]? with
   |none=>rw[e] at h2;cases h2
   |some a=>rw[e] at h2;cases h2;rfl
  obtain⟨u,hu,rv⟩:=r.get ha
  have hp:ps[i]? =some y:=by rw[<-S.pre,aBs<|by omega];exact h1
  have ndP:ps.Nodup:=by rw[<-S.pre];exact S.nd.sublist<|List.take_sublist _ _
  refine⟨u,rv, ?_⟩
  rcases S.par y (bD hp) with k|k
  ·exact .inl ⟨k,aAg ndP hp hu k⟩
  ·obtain⟨c,e⟩:=aCo (n:=s.heap.objs.size+1) k;refine .inr ⟨.inl k,c,e, ?_⟩;have q:=x.cell y c e;rw[zV ndP hp hu<|by show scope.names.lookup y≠_;rw[k];decide] at q;exact q
 ·exact e0.hok.fresh<|dG (x.above y c<|PySem.mem_of_lookup h)
 ·unfold start;show _=N.length;rw[aQ,aA,List.length_replicate];omega
theorem aPe{K:aB}{mg:Str->Option BH}{base:BL}{name qual:Str}{params:Arguments}{body:List BN}{scope:Scope}{dV kV doc pm cdv ct oc:BH}{an od:Option BJ}
  {osl:Array (Option BH)}{N ps:List Str}{sp:Sp} (lk:K.lookup f=some ⟨oc,od,.func<|gC name qual params body scope dV kV doc pm an cdv ct,osl⟩) (hcd:lA K cdv qual=true) (S:pB N ps scope)
  (len:∀vs H Q E,sp vs H Q E->vs.length=ps.length)
  (hbody:∀ (A:BK) (outer:List Env) (s:BI) (H:Hp) (vs:List V) (Q:VK) (E:XK),Room k (A.deeper (Af qual scope s.heap.objs.size f cdv))→sp vs H Q E→
   ∃t,PSs (nG CX P w K mg base N qual scope f cdv A outer s H E) body t/\t {nx:=λ_ H'=>Q .non H',rt:=Q} (start N vs) H):
  FnOk P w K mg base CX (k+1) f (gC name qual params body scope dV kV doc pm an cdv ct) ps sp:=by
 refine⟨len,λA outer s H args us vs Q E hr e0 hb r hsp=> ?_⟩;have hl:=len _ _ _ _ hsp;have KX:K.In s.heap:=e0.mod.kin.keeps λb o e=>(e0.bs b o e).1
 have lim:s.heap.NoLimit:=e0.mod.nolimit.keeps λb o e=>(e0.bs b o e).1
 have hkind:∀y∈ps.zip us,scope.names.lookup y.1=some .local\/(scope.names.lookup y.1=some .cell/\((cellsFrom (s.heap.objs.size+1) scope.names []).lookup y.1).isSome=true):=λ⟨n,v⟩ hy=>by
  rcases S.par n (yY hy).1 with q|q
  ·exact .inl q
  ·exact .inr ⟨q,aAH _ _ _<|.inl q⟩
 refine codeAny_call_function hr.depth (KX _ _ lk) rfl S.co S.gen rfl (PySem.W.codeRec_of KX hcd)<|hb _ _ _ _ ?_;refine wpAny_newFunctionEnv_cells S.kind hkind λenv he s1 x=> ?_
 subst he;refine⟨lim.keeps x.toInCall.keep,codeAny_func ?_⟩;obtain⟨t,ht,hq⟩:=hbody A outer s H vs Q E (hr.deeper _) hsp;have I:Inv (nG CX P w K mg base N qual scope f cdv A outer s H E) [] (start N vs) H s1:=aFO S hr.hd e0 hl r x;refine Ac (ht [] s1 (start N vs) H _ I hq) (λfl s' hs=> ?_) λe s' hs=>hs
 have fin:∀ {σ':St}{H':Hp}{v:V}{u:BH},Inv (nG CX P w K mg base N qual scope f cdv A outer s H E) [] σ' H' s'->RelV v u->Q v H'->CE outer P w H s Q u s':=
  λ{σ' H' v u} J rv q=>⟨v,H',J.os,J.bare,J.base,J.hok,rv,q⟩
 cases fl with
 |ret u=>obtain⟨v,σ',H',J,rv,q⟩:=hs;exact fin J rv q
 |next=>obtain⟨σ',H',J,q⟩:=hs;exact fin (v:=V.non) (u:=Value.none) J rfl q
 |brk=>obtain⟨_,_,_,q⟩:=hs;exact False.elim q
 |cont=>obtain⟨_,_,_,q⟩:=hs;exact False.elim q
variable {id T:String}{r:List V->Hp->VK->Prop}
noncomputable def tCB(r:List V->Hp->VK->Prop)(t:TA):TE:=λσ H Q=>t σ H λvs H1=>r vs H1 Q
theorem sK(hc:lY X (.builtin id) r)(hg:Gl X x)(hm:X.mg x=none)(hv:Ap x=some (.builtin id))(ha:PA X (e::es) t)(hn:x≠"__name__":=by decide)(hdb:(x==("__debug__":Str))=false:=by decide)
  (he:AF (e::es) X.env=(false,eval e X.env)::AF es X.env:=by rfl) (hpl:(Au pos<|AF es X.env).any (·.1)=false:=by rfl):PE X (.Call (.Name x p) (e::es) [] pos) (tCB r t):=by
 intro pins s σ H Q I h;refine Ad<|nF I hg hm hv ?_ hn hdb;exact PyProof.Rows.callWith_builtin1 (thn (ha pos pins s σ H _ I h) λus s1 ⟨vs,H1,I1,r1,q1⟩=>hc pins s1 σ H1 vs us Q I1 r1 q1) he hpl
theorem aFj(hc:lY X (.type T) r)(hg:Gl X x)(hm:X.mg x=none)(hv:Ap x=some (.type T))(ha:PA X (e::es) t)(hn:x≠"__name__":=by decide)(hdb:(x==("__debug__":Str))=false:=by decide)
  (he:AF (e::es) X.env=(false,eval e X.env)::AF es X.env:=by rfl) (hpl:(Au pos<|AF es X.env).any (·.1)=false:=by rfl):PE X (.Call (.Name x p) (e::es) [] pos) (tCB r t):=by
 intro pins s σ H Q I h;refine Ad<|nF I hg hm hv ?_ hn hdb;exact PyProof.Rows.callWith_type1 (thn (ha pos pins s σ H _ I h) λus s1 ⟨vs,H1,I1,r1,q1⟩=>hc pins s1 σ H1 vs us Q I1 r1 q1) he hpl
end L2
namespace HT
open PySem PyProof.Rows
noncomputable def lexLt:List Int->List Int->Bool
 |[],[]=>false
 |[],_::_=>true
 |_::_,[]=>false
 |x::xs,y::ys=>if x=y then lexLt xs ys else decide (x<y)
section
open PySem.SeqAt
open PySem.AutoSeq1 (wpAny_loadPart')
open PySem.MeetsSeq PySem.MeetsSeq2 PySem.MeetsSeq3
end
variable {prog:AD}{w:AL}{A:BK}{E:BH->BI->Prop}{s:BI}
theorem cat_tup{t b:BJ}{vs ws:List BH}{Q:BH->BI->Prop}(ht:IsTup s.heap t vs.toArray)(hb:IsTup s.heap b ws.toArray)(hv:vs≠[])
  (h1:ws=[]->Q (.ref t) s) (h2:ws≠[]->Q (.ref s.heap.objs.size) {s with heap:=s.heap.push {cls:=.type "tuple",data:=.seq (vs++ws).toArray}})
  (hsz:vs.length+ws.length<=AN):AI (AG prog w) A (Aj .Add (.ref t)<|.ref b) Q E s:=by
 obtain⟨⟨cls,dd,data,sl⟩,ho,hc,n,hd⟩:=id ht;obtain⟨⟨cls2,dd2,data2,sl2⟩,ho2,hc2,n2,hd2⟩:=id hb;simp only at hc hd hc2 hd2;subst hc hd hc2 hd2;have e:vs.toArray++ws.toArray=(vs++ws).toArray:=by simp
 by_cases hw:ws=[]
 ·exact concat_meets ⟨_,ho,rfl⟩ ⟨_,ho2,rfl⟩ noFill_tuple_add seq_tuple_add pE oQ (nL _ _)
   (tuple_addW1 t b vs.toArray ws.toArray n n2 dd dd2 sl sl2 (by simpa using hv)<|by simp[hw]) ⟨ho,ho2,h1 hw⟩
 ·refine concat_meets ⟨_,ho,rfl⟩ ⟨_,ho2,rfl⟩ noFill_tuple_add seq_tuple_add pE oQ (nL _ _)
   (tuple_addW2 t b vs.toArray ws.toArray n n2 dd dd2 sl sl2 (by simpa using hv) (by simpa using hw)<|by rw[aV,aV];exact hsz) ⟨ho,ho2, ?_⟩
  rw[e];exact h2 hw
noncomputable def sIx(n d:Nat):Option Int->Nat
 |none=>d
 |some v=>if v<0 then(v+(n:Int)).toNat else min v.toNat n
theorem sIx_none(n d:Nat):sIx n d none=d:=rfl
theorem sIx_nat(n d k:Nat):sIx n d (some (k:Int))=min k n:=by show(if(k:Int)<0 then((k:Int)+(n:Int)).toNat else min (k:Int).toNat n)=min k n;rw[if_neg<|by omega,dO]
theorem aNS(n d:Nat)(hd:d<=n)(o:Option Int):sIx n d o<=n:=by
 cases o with
 |none=>exact hd
 |some v=>
  show(if v<0 then(v+(n:Int)).toNat else min v.toNat n)<=n
  by_cases hv:v<0
  ·rw[if_pos hv];omega
  ·rw[if_neg hv];exact Nat.min_le_right _ _
theorem aEW(v:Int)(n d:Nat):(if v<0 then max (v+(n:Int)) 0 else min v (n:Int))=((sIx n d (some v):Nat):Int):=by
 show(if v<0 then max (v+(n:Int)) 0 else min v (n:Int))=(((if v<0 then(v+(n:Int)).toNat else min v.toNat n):Nat):Int)
 by_cases hv:v<0
 ·simp only[if_pos hv];omega
 ·simp only[if_neg hv];omega
theorem aCP(lo hi:Option Int)(n:Nat):Builtin.Slice.sliceAdjust lo hi 1 (n:Int)=(((sIx n 0 lo:Nat):Int),((sIx n n hi:Nat):Int)):=by
 have h1:¬ ((1:Int)<0):=by omega
 unfold Builtin.Slice.sliceAdjust;simp only[h1,if_false];refine Prod.ext ?_ ?_
 ·cases lo with
  |none=>rfl
  |some v=>exact aEW v n 0
 ·cases hi with
  |none=>rfl
  |some v=>exact aEW v n n
theorem aDg(i j:Nat):Builtin.Slice.slicePlaces (i:Int) (j:Int) 1=j-i:=by
 unfold Builtin.Slice.slicePlaces;have h1:(1:Int)>0:=by omega
 simp only[h1,if_true,Int.ediv_one]
 split<;>omega
theorem wV{v:BH}{o:Option Int}{Q:Option Int->BI->Prop}(p:IsPart v o)(h:Q o s):AI (AG prog w) A (Builtin.Slice.slicePartIndex v) Q E s:=by
 cases p with
 |none=>exact slicePart_none h
 |int i t=>exact slicePart_int h
theorem uB{sl:BJ}{vl vu:BH}{lo hi:Option Int}{n:Nat}{Q:Int×Int×Nat->BI->Prop}(hs:s.heap.IsSliceOf sl vl vu .none)(pl:IsPart vl lo)(pu:IsPart vu hi)
  (h:Q (((sIx n 0 lo:Nat):Int),1,sIx n n hi-sIx n 0 lo) s):AI (AG prog w) A (Builtin.Slice.sliceApplied (.ref sl)<|pure (n:Int)) Q E s:=by
 obtain⟨os,hos,hcs,hds⟩:=id hs;unfold Builtin.Slice.sliceApplied Builtin.Slice.sliceFields;refine AA<|AA (wpAny_field hos hds (x:=vl) rfl<|AA (wpAny_field hos hds (x:=vu) rfl<|AA (wpAny_field hos hds (x:=.none) rfl<|AB ?_)));refine AA<|slicePart_none ?_;show AI _ _ (if((1:Int)==0)=true then _ else _) _ _ s;rw[if_neg<|by decide];refine AA<|wV pl (AA<|wV pu (AA<|AB ?_));show AI _ _ (match Builtin.Slice.sliceAdjust lo hi 1 (n:Int) with|(lo,hi)=>pure (lo,(1:Int),Builtin.Slice.slicePlaces lo hi 1)) _ _ s;rw[aCP lo hi n];show AI _ _ (pure (((sIx n 0 lo:Nat):Int),(1:Int),Builtin.Slice.slicePlaces ((sIx n 0 lo:Nat):Int) ((sIx n n hi:Nat):Int) 1)) _ _ s;rw[aDg];exact AB h
theorem aHm(xs:Array BH)(i k:Nat):((bO k).filterMap λ(m:Nat)=>xs[((i:Int)+(m:Int)*1).toNat]?).toArray=((xs.toList.drop i).take k).toArray:=by
 have e:(λ(m:Nat)=>xs[((i:Int)+(m:Int)*1).toNat]?)=λm=>xs[i+m]? :=by
  funext m;have:((i:Int)+(m:Int)*1).toNat=i+m:=by omega
  rw[this]
 rw[e];have:=pick_run xs i k;rw[List.filterMap_map] at this;have e2:((λx=>xs[x]?) ∘ λx=>i+x)=λm=>xs[i+m]? :=rfl
 rw[e2] at this;rw[this]
theorem getItem_tuple_cut{t sl:BJ}{items:Array BH}{vl vu:BH}{lo hi:Option Int}{Q:BH->BI->Prop}(ht:IsTup s.heap t items)(hs:s.heap.IsSliceOf sl vl vu .none)(pl:IsPart vl lo)(pu:IsPart vu hi)
  (hw:¬ (sIx items.size 0 lo=0/\sIx items.size items.size hi=items.size))
  (h:Q (.ref s.heap.objs.size) {s with heap:=s.heap.push {cls:=.type "tuple",data:=.seq ((items.toList.drop<|sIx items.size 0 lo).take<|sIx items.size items.size hi-sIx items.size 0 lo).toArray}})
  (hsz:items.size<=AN):AI (AG prog w) A (getItem (.ref t)<|.ref sl) Q E s:=by
 have htake:sizeOk (.seq ((items.toList.drop<|sIx items.size 0 lo).take<|sIx items.size items.size hi-sIx items.size 0 lo).toArray):=by show((items.toList.drop<|sIx items.size 0 lo).take<|sIx items.size items.size hi-sIx items.size 0 lo).toArray.size<=AN;rw[aV,cO,iC,cM];omega
 have hj:sIx items.size items.size hi<=items.size:=aNS _ _ (aP _) hi;obtain⟨os,hos,hcs,hds⟩:=id hs;have hTs:s.TypeIs (.ref sl) "slice":=⟨os,hos,hcs⟩;unfold getItem
 try with_reducible refine AV ?_
 first|refine AA (AB ?_)|skip
 refine AA<|wpAny_sequenceKey ht.typeIs (by decide) ?_
 refine AA (Al (name:=Str.ofString "__getitem__") ht.typeIs PyProof.Rows.slot_tuple_getitem
  (Ae PyProof.Rows.slot_tuple_getitem ht.typeIs entry_tuple_getitem ?_ (args_tuple_getitem _ _)))
 show AI _ _ (Builtin.Tuple.tupleItemsOf (.ref t)>>=_) _ _ s;refine AA<|tupleItemsOf_ ht ?_;refine AA<|wpAny_typeOf hTs ?_;rw[if_pos<|by decide];refine AA<|uB hs pl pu ?_
 have hno:¬ ((((sIx items.size 0 lo:Nat):Int)==0&&(1:Int)==1&&(sIx items.size items.size hi-sIx items.size 0 lo)==items.size)=true):=by intro q;rw[bC,bC] at q;have q1:((sIx items.size 0 lo:Nat):Int)=0:=eq_of_beq q.1.1;have q2:sIx items.size items.size hi-sIx items.size 0 lo=items.size:=eq_of_beq q.2;exact hw ⟨by omega,by omega⟩
 show AI _ _ (if(((sIx items.size 0 lo:Nat):Int)==0&&(1:Int)==1&&(sIx items.size items.size hi-sIx items.size 0 lo)==items.size)=true then _ else _) _ _ s;rw[if_neg hno,aHm]
 first
  |exact AA (m:=Builtin.Tuple.tupleExact _) (AR (AB ⟨_,rfl,AB h⟩) htake)
  |exact AA (m:=Builtin.Tuple.tupleExact _) (AR (AA (AB<|AB ⟨_,rfl,AB h⟩)) htake)
  |exact AA (AA (m:=Builtin.Tuple.tupleExact _)<|AR (AB<|AB ⟨_,rfl,AB h⟩) htake)
  |exact AA (AA (m:=Builtin.Tuple.tupleExact _)<|AR (AB ⟨_,rfl,AB h⟩) htake)
end HT
namespace L2
open PySem PySem.Spec PyProof.Rows
noncomputable abbrev TO:=St->Hp->(Option Int->Hp->Prop)->Prop
def PO(X:Cx)(e:Option Expr)(t:TO):Prop:=
 ∀ (pins:List (BJ×BM)) (s:BI) (σ:St) (H:Hp) (Q:Option Int->Hp->Prop),Inv X pins σ H s->t σ H Q->
  AI (AG X.prog X.w) X.A (evalPart e X.env) (λu s'=>∃o H',Inv X pins σ H' s'/\IsPart u o/\Q o H') X.xe s
noncomputable def aKz:TO:=λ_ H Q=>Q none H
noncomputable def aPg(t:TE):TO:=λσ H Q=>t σ H λx H1=>∃i,x=.int i/\Q (some i) H1
variable {X:Cx}{e:Expr}{te:TE}{lo hi:Option Expr}{tl th:TO}{pos p2:Pos}
theorem aKd:PO X none aKz:=by intro pins s σ H Q I h;rw[evalPart_none];exact AB ⟨none,H,I,.none,h⟩
theorem aLn(h:PE X e te):PO X (some e) (aPg te):=by
 intro pins s σ H Q I hw;rw[evalPart_some];refine thn (h pins s σ H _ I hw) λu s1 ⟨x,H1,I1,r1,q1⟩=> ?_
 obtain⟨i,rfl,q⟩:=q1;obtain⟨t,rfl⟩:=r1;exact⟨some i,H1,I1,.int i t,q⟩
def SlR(X:Cx)(r:V->Option Int->Option Int->Hp->VK->Prop):Prop:=
 ∀ (pins:List (BJ×BM)) (s:BI) (σ:St) (H:Hp) (x:V) (v vl vu:BH) (lo hi:Option Int) (sl:BJ) (Q:VK),Inv X pins σ H s->RelV x v->s.heap.IsSliceOf sl vl vu .none->IsPart vl lo->IsPart vu hi->r x lo hi H Q->
  ∃T id,typeLookup (.type T) "__getitem__"=pure (some<|.builtin id)/\s.TypeIs v T/\AI (AG X.prog X.w) X.A (getItem v<|.ref sl) (EP X pins σ Q) X.xe s
noncomputable def tSl(r:V->Option Int->Option Int->Hp->VK->Prop)(te:TE)(tl th:TO):TE:=λσ H Q=>te σ H λx H1=>tl σ H1 λl H2=>th σ H2 λu H3=>r x l u H3 Q
theorem xN{r:V->Option Int->Option Int->Hp->VK->Prop}(hr:SlR X r)(he:PE X e te)(hl:PO X lo tl)(hu:PO X hi th):PE X (.Subscript e (.Slice lo hi none p2) pos) (tSl r te tl th):=by
 intro pins s σ H Q I h;refine Subscript_<|thn (he pins s σ H _ I h) λv s1 ⟨x,H1,I1,r1,q1⟩=> ?_;refine wpAny_Slice<|thn (hl pins s1 σ H1 _ I1 q1) λvl s2 ⟨l,H2,I2,pl,q2⟩=>thn (hu pins s2 σ H2 _ I2 q2) λvu s3 ⟨u,H3,I3,pu,q3⟩=> ?_;rw[evalPart_none];refine AB ?_;have I4:Inv X pins σ H3 {s3 with heap:=s3.heap.push {cls:=.type "slice",data:=.fields #[vl,vu,.none]}}:=I3.kept (t':=s3.toks) λb ob q=>aD _ q
 obtain⟨T,id,hT,ht,hg⟩:=hr pins {s3 with heap:=s3.heap.push {cls:=.type "slice",data:=.fields #[vl,vu,.none]}} σ H3 x v vl vu l u s3.heap.objs.size Q I4 r1 (Heap.IsSliceOf.new ..) pl pu q3;show AI (AG X.prog X.w) X.A (subscriptTail e (.Slice lo hi none p2) v<|.ref s3.heap.objs.size) (EP X pins σ Q) X.xe {s3 with heap:=s3.heap.push {cls:=.type "slice",data:=.fields #[vl,vu,.none]}};exact tail_any (ops:=[.ref s3.heap.objs.size,v]) ht hT hg (by with_unfolding_all rfl)
noncomputable def xG(xs:List V)(lo hi:Option Int):List V:=(xs.drop<|HT.sIx xs.length 0 lo).take<|HT.sIx xs.length xs.length hi-HT.sIx xs.length 0 lo
theorem uQ(xs:List V)(lo hi:Option Int):(xG xs lo hi).length<=xs.length:=by unfold xG;rw[cO,iC];omega
def rSlT(K:aB):V->Option Int->Option Int->Hp->VK->Prop:=λx lo hi H Q=>∃a xs,x=.ref a/\SqT K H a xs/\
 ¬ (HT.sIx xs.length 0 lo=0/\HT.sIx xs.length xs.length hi=xs.length)/\∀p,H p=none->Q (.ref p) (upd H p (.tup<|xG xs lo hi))
theorem aOh:SlR X (rSlT X.K):=by
 intro pins s σ H x v vl vu lo hi sl Q I rx hs pl pu h;obtain⟨a,xs,rfl,hx,hw,q⟩:=h;cases rx;obtain⟨its,r,ht,hz⟩:=I.tuple hx;have hlen:its.toArray.size=xs.length:=by rw[aV];exact r.length.symm
 refine⟨"tuple",_,PyProof.Rows.slot_tuple_getitem.lookup,ht.typeIs, ?_⟩;refine HT.getItem_tuple_cut ht hs pl pu (by rw[hlen];exact hw) ?_ (by rw[hlen];exact hz);rw[hlen];refine⟨.ref s.heap.objs.size,_,I.laid (t':=s.toks) (o:=.tup<|xG xs lo hi) (λb ob q=>aD _ q) (aP _) ?_,rfl,q _ (I.hok.fresh<|aP _)⟩;exact⟨cJ (uQ xs lo hi) hz,_,(r.drop<|HT.sIx xs.length 0 lo).take<|HT.sIx xs.length xs.length hi-HT.sIx xs.length 0 lo,IsTupD.new _ _⟩
noncomputable def aQb(K:aB):R2:=λx y H Q=>∃a b xs ys,x=.ref a/\y=.ref b/\SqT K H a xs/\SqT K H b ys/\xs≠[]/\xs.length+ys.length<=AN/\
 (ys=[]->Q (.ref a) H)/\(ys≠[]->∀p,H p=none->Q (.ref p) (upd H p (.tup<|xs++ys)))
theorem Vals.nil_iff{xs:List V}{us:List BH}(r:Vals xs us):us=[]↔xs=[]:=by
 cases r with
 |nil=>simp
 |cons _ _=>simp
theorem aLi:OpR X (Aj .Add) (aQb X.K):=by intro pins s σ H x y v u Q I rx ry h;obtain⟨a,b,xs,ys,rfl,rfl,ha,hb,hx,hz,q1,q2⟩:=h;cases rx;cases ry;obtain⟨its,r1,p1,_⟩:=I.tuple ha;obtain⟨its2,r2,p2,_⟩:=I.tuple hb;refine HT.cat_tup p1 p2 (λz=>hx<|r1.nil_iff.mp z) (λz=>⟨.ref a,H,I,rfl,q1<|r2.nil_iff.mp z⟩) (λz=> ?_) (by rw[<-r1.length,<-r2.length];exact hz);refine⟨.ref s.heap.objs.size,_,I.laid (t':=s.toks) (o:=.tup<|xs++ys) (λb ob q=>aD _ q) (aP _) ?_,rfl,q2 (λw=>z<|r2.nil_iff.mpr w) _ (I.hok.fresh<|aP _)⟩;exact⟨by rw[aQ];exact hz,_,r1.append r2,IsTupD.new _ _⟩
noncomputable def ixN(n:Nat)(i:Int):Option Nat:=if 0<=i then(if i<n then some i.toNat else none) else if -(n:Int)<=i then some (i+n).toNat else none
noncomputable def atI{α:Type}(xs:List α)(i:Int):Option α:=(ixN xs.length i).bind λj=>xs[j]?
theorem aJS{n:Nat}{i:Int}{j:Nat}(h:ixN n i=some j):seqIndex? i n=some j/\j<n/\ -(n:Int)<=i/\i<n:=by
 unfold ixN at h
 by_cases h0:0<=i
 ·rw[if_pos h0] at h
  by_cases h1:i<n
  ·rw[if_pos h1] at h;have e:i.toNat=j:=cA.inj h;exact⟨by rw[seqIndex_of h0 h1,e],by omega,by omega,h1⟩
  ·rw[if_neg h1] at h;cases h
 ·rw[if_neg h0] at h
  by_cases h1: -(n:Int)<=i
  ·rw[if_pos h1] at h;have e:(i+n).toNat=j:=cA.inj h;exact⟨by rw[seqIndex_neg (by omega) h1,e],by omega,h1,by omega⟩
  ·rw[if_neg h1] at h;cases h
theorem aEO{α:Type}{xs:List α}{i:Int}{v:α}(h:atI xs i=some v):∃j,seqIndex? i xs.length=some j/\xs[j]? =some v/\j<xs.length/\ -(xs.length:Int)<=i/\i<xs.length:=by
 unfold atI at h;cases e:ixN xs.length i with
 |none=>rw[e] at h;cases h
 |some j=>rw[e] at h;obtain⟨h1,h2,h3,h4⟩:=aJS e;exact⟨j,h1,h,h2,h3,h4⟩
theorem aAI{α:Type}{xs:List α}{j:Nat}{v:α}(h:xs[j]? =some v):atI xs (j:Int)=some v:=by
 have hj:j<xs.length:=(aK.mp h).1
 have e:ixN xs.length (j:Int)=some j:=by unfold ixN;rw[if_pos<|by omega,if_pos<|by omega];simp
 unfold atI;rw[e];exact h
theorem atI_last{α:Type}(xs:List α)(v:α):atI (xs++[v]) (-1)=some v:=by
 have hl:(xs++[v]).length=xs.length+1:=by simp
 have e:ixN (xs++[v]).length (-1)=some xs.length:=by unfold ixN;rw[hl,if_neg<|by decide,if_pos<|by omega];congr 1;omega
 unfold atI;rw[e];show(xs++[v])[xs.length]? =some v;simp
def oZ(b:Expr):Prop:=∀o i,subscripted b false o i=operate [o,i] (getItem o i)
def IxR(X:Cx)(r:R2):Prop:=
 ∀ (value slice:Expr) (pins:List (BJ×BM)) (s:BI) (σ:St) (H:Hp) (x y:V) (v u:BH) (Q:VK),Inv X pins σ H s->RelV x v->RelV y u->r x y H Q->
  subscripted slice false v u=operate [v,u] (getItem v u)->AI (AG X.prog X.w) X.A (subscriptTail value slice v u) (EP X pins σ Q) X.xe s
def MtR(X:Cx)(id:String)(r:V->List V->Hp->VK->Prop):Prop:=
 ∀ (pins:List (BJ×BM)) (s:BI) (σ:St) (H:Hp) (x:V) (xs:List V) (v:BH) (us:List BH) (Q:VK),Inv X pins σ H s->RelV x v->Vals xs us->r x xs H Q->
  AI (AG X.prog X.w) X.A (call (.builtin id) (v::us)) (EP X pins σ Q) X.xe s
variable {a b:Expr}{ta tb:TE}
theorem aGK{r:R2}(hr:IxR X r)(ha:PE X a ta)(hb:PE X b tb)(hs:oZ b):PE X (.Subscript a b pos) (tOp r ta tb):=by intro pins s σ H Q I h;exact Subscript_ (aPb ha hb I h λv u s2 x y H2 I2 rx ry q=>hr a b pins s2 σ H2 x y v u Q I2 rx ry q<|hs _ _)
noncomputable def rIxL(K:aB):R2:=λx y H Q=>∃p xs i v,x=.ref p/\y=.int i/\SqL K H p xs/\atI xs i=some v/\Q v H
noncomputable def rIxT(K:aB):R2:=λx y H Q=>∃p xs i v,x=.ref p/\y=.int i/\SqT K H p xs/\atI xs i=some v/\Q v H
theorem aEk:IxR X (rIxL X.K):=by
 intro value slice pins s σ H x y v u Q I rx ry h hs;obtain⟨p,xs,i,z,rfl,rfl,hq,he,q⟩:=h;cases rx;obtain⟨t,rfl⟩:=ry;obtain⟨its,r,pl,hz⟩:=I.list hq;obtain⟨j,h1,h2,h3,h4,h5⟩:=aEO he;obtain⟨w,ew,rw'⟩:=r.get h2;have hl:=r.length;have hn:=aDL;have fin:EP X pins σ Q w s:=⟨z,H,I,rw',q⟩
 by_cases h0:0<=i
 ·have hj:i.toNat=j:=by rw[seqIndex_of h0 h5] at h1;exact cA.inj h1
  exact item_listR pl.isList h0 (by omega) (by rw[hj];simpa using ew) fin hs
 ·have hj:(i+(its.toArray.size:Int)).toNat=j:=by rw[seqIndex_neg (by omega) h4] at h1;rw[aV,<-hl];exact cA.inj h1
  exact subscriptTail_builtinR (x:=w) pl.isList.typeIs slot_list_getitem.lookup
   (wpAny_getItem_list_neg (Q:=λr s'=>r=w/\EP X pins σ Q r s') pl.isList (by omega) (by rw[aV]<;>omega) (by omega) (by rw[hj];simpa using ew) ⟨rfl,fin⟩) hs
theorem aIq:IxR X (rIxT X.K):=by
 intro value slice pins s σ H x y v u Q I rx ry h hs;obtain⟨p,xs,i,z,rfl,rfl,hq,he,q⟩:=h;cases rx;obtain⟨t,rfl⟩:=ry;obtain⟨its,r,pl,hz⟩:=I.tuple hq;obtain⟨j,h1,h2,h3,h4,h5⟩:=aEO he;obtain⟨w,ew,rw'⟩:=r.get h2;have hl:=r.length;have hn:=aDL;have fin:EP X pins σ Q w s:=⟨z,H,I,rw',q⟩
 exact subscriptTail_builtinR (x:=w) pl.typeIs slot_tuple_getitem.lookup
  (getItem_tuple (j:=j) (Q:=λr s'=>r=w/\EP X pins σ Q r s') pl (by omega) (by omega) (by rw[aV,<-hl];exact h1) (by simpa using ew) ⟨rfl,fin⟩) hs
theorem aAu(lo hi:Option Int)(n:Nat):(sliceBounds lo hi none n).1=((HT.sIx n 0 lo:Nat):Int)/\(sliceBounds lo hi none n).2.1=((HT.sIx n n hi:Nat):Int)/\(sliceBounds lo hi none n).2.2=1:=by
 refine⟨?_, ?_,rfl⟩
 ·cases lo with
  |none=>simp[sliceBounds,HT.sIx]
  |some i=>
   simp only[sliceBounds,HT.sIx,aId,show(1:Int)>0 by decide,if_true]
   by_cases h:i<0
   ·simp only[h,if_true]<;>omega
   ·simp only[h,if_false]<;>omega
 ·cases hi with
  |none=>simp[sliceBounds,HT.sIx]
  |some i=>
   simp only[sliceBounds,HT.sIx,aId,show(1:Int)>0 by decide,if_true]
   by_cases h:i<0
   ·simp only[h,if_true]<;>omega
   ·simp only[h,if_false]<;>omega
theorem zG(its:List BH)(lo hi:Option Int):slicePick its.toArray lo hi none=((its.drop<|HT.sIx its.length 0 lo).take<|HT.sIx its.length its.length hi-HT.sIx its.length 0 lo).toArray:=by obtain⟨h1,h2,h3⟩:=aAu lo hi its.toArray.size;unfold slicePick;rw[h1,h2,h3];simp only[sliceRange_one,pick_run,aV]<;>rfl
def rSlL(K:aB):V->Option Int->Option Int->Hp->VK->Prop:=λx lo hi H Q=>∃a xs,x=.ref a/\SqL K H a xs/\∀p,H p=none->Q (.ref p) (upd H p (.lst<|xG xs lo hi))
theorem aET:SlR X (rSlL X.K):=by intro pins s σ H x v vl vu lo hi sl Q I rx hs pl pu h;obtain⟨a,xs,rfl,hx,q⟩:=h;cases rx;obtain⟨its,r,ht,hz⟩:=I.list hx;have hlen:=r.length;refine⟨"list",_,slot_list_getitem.lookup,ht.isList.typeIs, ?_⟩;refine wpAny_getItem_list_slice ht.isList hs pl pu .none (by simp) ?_ (by rw[aV]<;>omega);rw[zG,<-hlen];refine⟨.ref s.heap.objs.size,_,I.laid (t':=s.toks) (o:=.lst<|xG xs lo hi) (λb ob q=>aD _ q) (aP _) ?_,rfl,q _ (I.hok.fresh<|aP _)⟩;exact⟨cJ (uQ xs lo hi) hz,_,0,(r.drop<|HT.sIx xs.length 0 lo).take<|HT.sIx xs.length xs.length hi-HT.sIx xs.length 0 lo,bG _ rfl⟩
noncomputable def pF:V->Bool
 |.non=>true
 |.bl _=>true
 |.int _=>true
 |.str _=>true
 |_=>false
noncomputable def eqV:V->V->Bool
 |.non,.non=>true
 |.bl a,.bl b=>a==b
 |.bl a,.int b=>(if a then 1 else 0)==b
 |.int a,.bl b=>a==(if b then 1 else 0)
 |.int a,.int b=>a==b
 |.str a,.str b=>a==b
 |_,_=>false
theorem wZ{A:BK}{s:BI}{y x:V}{u v:BH}(ry:RelV y u)(rx:RelV x v)(fy:pF y=true)(fx:pF x=true):SeqAt.EqAt A s u v (eqV y x):=by
 cases y with
 |non=>
  cases ry;cases x with
  |non=>cases rx;exact SeqAt.EqAt.same _
  |bl b=>cases rx;exact SeqAt.EqAt.none_bool b
  |int b=>obtain⟨t,rfl⟩:=rx;exact SeqAt.EqAt.none_int b t
  |str b=>obtain⟨t,rfl⟩:=rx;exact SeqAt.EqAt.none_str b t
  |_=>exact absurd (show false=true from fx) bY
 |bl a=>
  cases ry;cases x with
  |non=>cases rx;exact SeqAt.EqAt.bool_none a
  |bl b=>cases rx;exact SeqAt.EqAt.bool_bool a b
  |int b=>obtain⟨t,rfl⟩:=rx;exact SeqAt.EqAt.bool_int a b t
  |str b=>obtain⟨t,rfl⟩:=rx;exact SeqAt.EqAt.bool_str a b t
  |_=>exact absurd (show false=true from fx) bY
 |int a=>
  obtain⟨t',rfl⟩:=ry;cases x with
  |non=>cases rx;exact SeqAt.EqAt.int_none a t'
  |bl b=>cases rx;exact SeqAt.EqAt.int_bool a t' b
  |int b=>obtain⟨t,rfl⟩:=rx;exact SeqAt.EqAt.int_int a t' b t
  |str b=>obtain⟨t,rfl⟩:=rx;exact SeqAt.EqAt.int_str a t' b t
  |_=>exact absurd (show false=true from fx) bY
 |str a=>
  obtain⟨t',rfl⟩:=ry;cases x with
  |non=>cases rx;exact SeqAt.EqAt.str_none a t'
  |bl b=>cases rx;exact SeqAt.EqAt.str_bool a t' b
  |int b=>obtain⟨t,rfl⟩:=rx;exact SeqAt.EqAt.str_int a t' b t
  |str b=>obtain⟨t,rfl⟩:=rx;exact SeqAt.EqAt.str_str a t' b t
  |_=>exact absurd (show false=true from fx) bY
 |_=>exact absurd (show false=true from fy) bY
noncomputable def eqU(x:V)(u:BH):Bool:=match u with
 |.none=>eqV .non x
 |.bool b=>eqV (.bl b) x
 |.int i _=>eqV (.int i) x
 |.str z _=>eqV (.str z) x
 |_=>false
theorem aIG{x y:V}{u:BH}(r:RelV y u)(f:pF y=true):eqU x u=eqV y x:=by
 cases y with
 |non=>cases r;rfl
 |bl b=>cases r;rfl
 |int i=>obtain⟨t,rfl⟩:=r;rfl
 |str z=>obtain⟨t,rfl⟩:=r;rfl
 |_=>exact absurd (show false=true from f) bY
theorem aAK{x:V}:∀ {xs:List V}{us:List BH},Vals xs us->xs.all pF=true->us.any (eqU x)=xs.any λy=>eqV y x
 |_,_,.nil,_=>rfl
 |y::xs,u::us,.cons r t,f=>by rw[aOy,bC] at f;rw[tP,tP,aIG r f.1,aAK t f.2]
theorem wP{A:BK}{s:BI}{x:V}{v:BH}(rx:RelV x v)(fx:pF x=true):∀ {xs:List V}{us:List BH},Vals xs us->xs.all pF=true->∀u∈us,SeqAt.EqAt A s u v (eqU x u)
 |_,_,.nil,_=>λu hu=>by cases hu
 |y::xs,u::us,.cons r t,f=>λu' hu=>by
  rw[aOy,bC] at f
  rcases aW.mp hu with rfl|hu
  ·rw[aIG r f.1];exact wZ r rx f.1 fx
  ·exact wP rx fx t f.2 u' hu
noncomputable def inV(x:V)(xs:List V):Bool:=xs.any λy=>eqV y x
noncomputable def rIn(K:aB)(neg:Bool):R2:=λx y H Q=>∃p xs,y=.ref p/\(SqL K H p xs\/SqT K H p xs)/\pF x=true/\xs.all pF=true/\Q (.bl (if neg then !inV x xs else inV x xs)) H
theorem aFX:OpR X (AS .In) (rIn X.K false):=by
 intro pins s σ H x y v u Q I rx ry h;obtain⟨p,xs,rfl,hq,fx,fs,q⟩:=h;cases ry
 rcases hq with hq|hq
 ·obtain⟨its,r,pl,hz⟩:=I.list hq;refine SeqAt.in_listAt (eqU x) pl.isList (λw hw=>wP rx fx r fs w<|by simpa using hw) ⟨.bl _,H,I,rfl, ?_⟩;rw[show its.toArray.any (eqU x)=its.any (eqU x) by simp,aAK r fs];exact q
 ·obtain⟨its,r,pl,hz⟩:=I.tuple hq;refine SeqAt.in_tupleAt (eqU x) pl (λw hw=>wP rx fx r fs w<|by simpa using hw) ⟨.bl _,H,I,rfl, ?_⟩;rw[show its.toArray.any (eqU x)=its.any (eqU x) by simp,aAK r fs];exact q
theorem oU:lY X (.builtin "len") (λxs H Q=>∃p ys,xs=[.ref p]/\(SqL X.K H p ys\/SqT X.K H p ys)/\Q (.int ys.length) H):=by
 intro pins s σ H xs us Q I r h;obtain⟨p,ys,rfl,hq,q⟩:=h;obtain⟨u,rfl,rx⟩:=nN r;cases rx;have hn:=aDL
 rcases hq with hq|hq
 ·obtain⟨its,r',pl,hz⟩:=I.list hq;have hlen:=r'.length;exact Calls.call_len_list pl.isList (by simp only[aV]<;>omega) ⟨.int ys.length,H,I.tok _,⟨s.toks+1,by rw[aV,hlen]⟩,q⟩
 ·obtain⟨its,r',pl,hz⟩:=I.tuple hq;have hlen:=r'.length;exact len_tuple pl (by simp only[aV]<;>omega) ⟨.int ys.length,H,I.tok _,⟨s.toks+1,by rw[aV,hlen]⟩,q⟩
theorem aAt:lY X (.type "list") (λxs H Q=>∃p ys,xs=[.ref p]/\(SqL X.K H p ys\/SqT X.K H p ys)/\∀l,H l=none->Q (.ref l) (upd H l<|.lst ys)):=by
 intro pins s σ H xs us Q I r h;obtain⟨p,ys,rfl,hq,q⟩:=h;obtain⟨u,rfl,rx⟩:=nN r;cases rx
 have fin:∀ (its:List BH),Vals ys its->ys.length<=AN->∀ (h':BL) (c':Nat),(∀b o',s.heap.get? b=some o'->h'.get? b=some o')->
   h'.get? s.heap.objs.size=some {cls:=.type "list",dict:=none,data:=.seq its.toArray c',slots:= #[]}->EP X pins σ Q (.ref s.heap.objs.size) {s with heap:=h'}:=λits r' hz h' c' kp e=>
  ⟨.ref s.heap.objs.size,_,I.laid (t':=s.toks) kp (aP _) (show ObjOk X.prog X.w _ h' _ (.lst ys) from⟨hz,its,c',r',e⟩),rfl,q _ (I.hok.fresh<|aP _)⟩
 rcases hq with hq|hq
 ·obtain⟨its,r',pl,hz⟩:=I.list hq;have hlen:=r'.length;obtain⟨o,ho,hc,n,hd⟩:=pl.isList;exact call_list_seq p (.inl rfl) ho hc hd (λh' c' kp e=>fin its r' hz h' c' kp e) (by simp only[aV]<;>omega)
 ·obtain⟨its,r',pl,hz⟩:=I.tuple hq;have hlen:=r'.length;obtain⟨o,ho,hc,n,hd⟩:=pl;exact call_list_seq p (.inr rfl) ho hc hd (λh' c' kp e=>fin its r' hz h' c' kp e) (by simp only[aV]<;>omega)
theorem zH:lY X (.type "tuple") (λxs H Q=>∃p ys,xs=[.ref p]/\((SqL X.K H p ys/\∀l,H l=none->Q (.ref l) (upd H l<|.tup ys))\/(SqT X.K H p ys/\Q (.ref p) H))):=by
 intro pins s σ H xs us Q I r h;obtain⟨p,ys,rfl,h⟩:=h;obtain⟨u,rfl,rx⟩:=nN r;cases rx
 rcases h with⟨hq,q⟩|⟨hq,q⟩
 ·obtain⟨its,r',pl,hz⟩:=I.list hq;have hlen:=r'.length;refine call_tuple_list pl.isList (λh' kp=> ?_) (by simp only[aV]<;>omega);have I1:Inv X pins σ H {s with heap:=h'}:=I.kept (t':=s.toks) kp
  have I2:Inv X pins σ (upd H h'.objs.size<|.tup ys) {s with heap:=h'.push {cls:=.type "tuple",data:=.seq its.toArray}}:=
   I1.laid (t':=s.toks) (λb o e=>aD _ e) (aP _) (show ObjOk X.prog X.w _ _ _ (.tup ys) from⟨hz,its,r',IsTupD.new _ _⟩)
  exact⟨.ref h'.objs.size,_,I2,rfl,q _ (I1.hok.fresh<|aP _)⟩
 ·obtain⟨its,r',pl,hz⟩:=I.tuple hq;exact call_tuple_same pl ⟨.ref p,H,I,rfl,q⟩
def tyV(K:aB)(T:String)(x:V)(H:Hp):Prop:=match x with
 |.str _=>T="str"
 |.int _=>T="int"
 |.ref p=>(T="list"/\∃xs,SqL K H p xs)\/(T="tuple"/\∃o,K.lookup p=some o/\o.cls=.type "tuple"/\o.dict=none)\/
   (T="dict"/\((∃kvs,H p=some (.dK kvs))\/∃kvs,H p=some (.dT kvs)))\/(T="set"/\∃S n,H p=some (.set S n))
 |_=>False
theorem aOg{pins:List (BJ×BM)}{σ:St}{H:Hp}{s:BI}{T:String}{x:V}{v:BH}(I:Inv X pins σ H s)(r:RelV x v)(ty:tyV X.K T x H):
  s.TypeIs v T/\∀a,v=.ref a->∃ob,s.heap.get? a=some ob/\ob.dict=none:=by
 cases x with
 |str z=>obtain⟨t,rfl⟩:=r;cases(show T="str" from ty);exact⟨typeIs_str s z t,λ_ e=>nomatch e⟩
 |int i=>obtain⟨t,rfl⟩:=r;cases(show T="int" from ty);exact⟨typeIs_int s i t,λ_ e=>nomatch e⟩
 |ref p=>
  cases r
  rcases ty with⟨rfl,xs,hq⟩|⟨rfl,o,hk,hc,hd⟩|⟨rfl,hk⟩|⟨rfl,S,n,hk⟩
  ·obtain⟨its,_,pl,_⟩:=I.list hq;refine⟨pl.isList.typeIs,λa e=> ?_⟩;cases e;obtain⟨o,n,e,c,hd,_⟩:=pl;exact⟨o,e,hd⟩
  ·refine⟨⟨o,I.kIn p o hk,hc⟩,λa e=> ?_⟩;cases e;exact⟨o,I.kIn _ o hk,hd⟩
  ·have z:∃o,s.heap.get? p=some o/\o.ExactDict:=by
    rcases hk with⟨kvs,hk⟩|⟨kvs,hk⟩
    ·obtain⟨_,_,_,_,o,_,_,e,ex,_⟩:=I.hok p _ hk;exact⟨o,e,ex⟩
    ·obtain⟨_,_,_,_,o,_,_,e,ex,_⟩:=I.hok p _ hk;exact⟨o,e,ex⟩
   obtain⟨o,e,ex⟩:=z;refine⟨⟨o,e,ex.1⟩,λa e2=> ?_⟩;cases e2;exact⟨o,e,ex.2.1⟩
  ·obtain⟨o,_,_,_,e,ex,_⟩:=I.hok p _ hk;refine⟨⟨o,e,ex.1⟩,λa e2=> ?_⟩;cases e2;exact⟨o,e,ex.2.1⟩
 |_=>exact False.elim ty
noncomputable def tBM(K:aB)(T:String)(r:V->List V->Hp->VK->Prop)(to:TE)(t:TA):TE:=λσ H Q=>to σ H λx H1=>tyV K T x H1/\t σ H1 λxs H2=>r x xs H2 Q
variable {o:Expr}{es:List Expr}{to:TE}{t:TA}{name:Str}{apos cpos:Pos}{T id:String}{r:V->List V->Hp->VK->Prop}
theorem aJL(pa:PlainAttrs T)(slot:Slot T name id)(hty:typeOf (.builtin id)=pure (.type "method_descriptor"))(hm:MtR X id r)(ho:PE X o to)(ha:PA X (e::es) t)
  (hbase:attributeBase o name X.env (eval o X.env)=eval o X.env:=by rfl)
  (hfew:((Au cpos (AF (e::es) X.env)).all (fun x=> !x.1) && (backToKw cpos (keywordEach [] X.env)).all (fun x=>x.1.isSome)
  &&decide ((e::es).length+([]:List Keyword).length+(if([]:List Keyword).isEmpty then 0 else 1)<30))=true:=by rfl)
  (hline:(apos.endLine==cpos.line)=true:=by rfl) (hs:AF (e::es) X.env=(false,eval e X.env)::AF es X.env:=by rfl) (hplain:(Au cpos<|AF es X.env).any (·.1)=false:=by rfl):
  PE X (.Call (.Attribute o name apos) (e::es) [] cpos) (tBM X.K T r to t):=by
 intro pins s σ H Q I h;refine wpAny_Call_method_late hbase hfew hline rfl<|thn (ho pins s σ H _ I h) λv s1 ⟨x,H1,I1,r1,ty,q1⟩=> ?_;obtain⟨h1,h2⟩:=aOg I1 r1 ty;refine⟨T,id,pa,slot,hty,h1,h2, ?_⟩;have hA:=ha cpos pins s1 σ H1 _ I1 q1;rw[hs] at hA ⊢;refine Calls.callWith_builtin (by show(false||(Au cpos<|AF es X.env).any (·.1))=false;rw[hplain]<;>rfl)<|Calls.evalArgs_plain ?_;exact thn hA λus s2 ⟨vs,H2,I2,r2,q2⟩=>hm pins s2 σ H2 x vs v us Q I2 r1 r2 q2
/- xs.append(e),list.index on a module's tuple .. are MtR facts of 06m -/
def MtM(X:Cx)(id:String)(r:V->List V->Hp->VK->Prop):Prop:=
 ∀ (pins:List (BJ×BM)) (s:BI) (σ:St) (H:Hp) (x:V) (xs:List V) (v:BH) (us:List BH) (Q:VK),Inv X pins σ H s->RelV x v->Vals xs us->r x xs H Q->
  AI (AG X.prog X.w) X.A (call (.builtin id) (v::us)) (EP X pins σ Q) X.xe s
theorem Vals.one:∀ {x:V}{us:List BH},Vals [x] us->∃u,us=[u]/\RelV x u
 |_,_,.cons r .nil=>⟨_,rfl,r⟩
variable {pins:List (BJ×BM)}{σ:St}{H:Hp}{s:BI}{l b:BJ}{xs ys zs:List V}
theorem Inv.lset{its its':List BH}{n:Nat}{f:Array BH->Array BH}{t':Nat}(I:Inv X pins σ H s)(hH:H l=some (.lst xs))
  (e:s.heap.get? l=some {cls:=.type "list",data:=.seq its.toArray n}) (hf:f its.toArray=its'.toArray) (hv:Vals ys its') (hz:ys.length<=AN):
  Inv X pins σ (upd H l<|.lst ys) {s with heap:=s.heap.update l<|Obj.mapSeq f,toks:=t'}:=by
 have q:=PySem.IsL.update e f;rw[hf] at q;refine I.write (x:=l) (e:=l) (by rw[hH];exact trivial) (.inl rfl) (λb' u hb hu=>(cI s.heap (Obj.mapSeq f)<|Ne.symm hb).trans hu) ⟨_,q⟩ ?_;exact⟨hz,its',_,hv,q⟩
theorem Inv.lnew{its:List BH}{t':Nat}(I:Inv X pins σ H s)(hv:Vals ys its)(hz:ys.length<=AN):
  Inv X pins σ (upd H s.heap.objs.size<|.lst ys) {s with heap:=s.heap.push {cls:=.type "list",data:=.seq its.toArray},toks:=t'}:=
 I.laid (λ_ _ q=>aD _ q) (aP _) ⟨hz,its,0,hv,bG _ rfl⟩
theorem Inv.fresh(I:Inv X pins σ H s):H s.heap.objs.size=none:=I.hok.fresh<|aP _
theorem Inv.lstM(I:Inv X pins σ H s)(hH:H l=some (.lst xs)):xs.length<=AN/\∃ (its:List BH) (n:Nat),Vals xs its/\xs.length=its.length/\s.heap.get? l=some {cls:=.type "list",data:=.seq its.toArray n}:=by obtain⟨z,its,n,r,e⟩:=I.hok l _ hH;exact⟨z,its,n,r,r.length,e⟩
theorem aHj{n:Nat}(h:n<=AN):Builtin.List.listTooLong n=false:=by unfold Builtin.List.listTooLong;exact decide_eq_false<|by omega
def vQ:V->List V->Hp->VK->Prop:=λx vs H Q=>∃l xs y,x=.ref l/\vs=[y]/\H l=some (.lst xs)/\xs.length<AN/\Q .non (upd H l (.lst<|xs++[y]))
theorem aAn:MtM X "list.append" vQ:=by intro pins s σ H x vs v us Q I rx rv h;obtain⟨l,xs,y,rfl,rfl,hH,hz,q⟩:=h;cases rx;obtain⟨u,rfl,ru⟩:=rv.one;obtain⟨z,its,n,r,hl,e⟩:=I.lstM hH;refine call_meets F.slot_list_append ⟨_,e,rfl⟩ F.entry_list_append (F.args_list_append_2 _ _) (PySem.list_append l its.toArray n u<|by rw[aV];omega) ⟨e, ?_⟩;refine⟨.non,_,I.lset (its':=its++[u]) hH e (by simp) (r.append<|.cons ru .nil) ?_,rfl,q⟩;rw[aQ,List.length_singleton];omega
def aFd:V->List V->Hp->VK->Prop:=λx vs H Q=>∃l b xs zs,x=.ref l/\vs=[.ref b]/\H l=some (.lst xs)/\H b=some (.lst zs)/\xs.length+zs.length<=AN/\Q .non (upd H l (.lst<|xs++zs))
theorem aFE:MtM X "list.extend" aFd:=by
 intro pins s σ H x vs v us Q I rx rv h;obtain⟨l,b,xs,zs,rfl,rfl,hH,hB,hz,q⟩:=h;cases rx;obtain⟨u,rfl,ru⟩:=rv.one;cases ru;obtain⟨z,its,n,r,hl,e⟩:=I.lstM hH;obtain⟨z2,its2,n2,r2,hl2,e2⟩:=I.lstM hB;have hsz:its.toArray.size+its2.toArray.size<=AN:=by rw[aV,aV];omega
 have hlong:¬ (!its.toArray.isEmpty&&Builtin.List.listTooLong (its.toArray.size+its2.toArray.size))=true:=by rw[aHj hsz,nD];exact bY
 refine call_meets F.slot_list_extend ⟨_,e,rfl⟩ F.entry_list_extend (F.args_list_extend_2 _ _)
  (AutoSeq1.list_extend_list_list_0 l its.toArray n b its2.toArray n2 hlong (by rw[aV];omega)<|by omega) ⟨e,e2, ?_⟩
 refine⟨.non,_,I.lset (its':=its++its2) hH e (by simp) (r.append r2) ?_,rfl,q⟩;rw[aQ];omega
def aOF:V->List V->Hp->VK->Prop:=λx vs H Q=>∃l xs y,x=.ref l/\vs=[]/\H l=some (.lst xs)/\xs[xs.length-1]? =some y/\Q y (upd H l<|.lst xs.dropLast)
noncomputable def rCat:R2:=λx y H Q=>∃l b xs zs,x=.ref l/\y=.ref b/\H l=some (.lst xs)/\H b=some (.lst zs)/\xs.length+zs.length<=AN/\∀p,H p=none->Q (.ref p) (upd H p (.lst<|xs++zs))
theorem aMP:OpR X (Aj .Add) rCat:=by
 intro pins s σ H x y v u Q I rx ry h;obtain⟨l,b,xs,zs,rfl,rfl,hH,hB,hz,q⟩:=h;cases rx;cases ry;obtain⟨z,its,n,r,hl,e⟩:=I.lstM hH;obtain⟨z2,its2,n2,r2,hl2,e2⟩:=I.lstM hB;refine PySem.P.add_list e e2 ?_ (by rw[aV,aV];omega);have ea:its.toArray++its2.toArray=(its++its2).toArray:=by simp
 rw[ea];exact⟨.ref _,_,I.lnew (t':=s.toks) (r.append r2) (by rw[aQ];omega),rfl,q _ I.fresh⟩
section
variable {prog:AD}{w:AL}{A:BK}{E:BH->BI->Prop}{s:BI}
set_option maxRecDepth 100000 in
end
section
variable {κ:Type}[DecidableEq κ]
noncomputable def lQ(kvs:List (κ×V))(k:κ):Option V:=(kvs.find? λkv=>decide<|kv.1=k).map (·.2)
noncomputable def aLO(kvs:List (κ×V))(k:κ)(v:V):List (κ×V):=
 if(kvs.any λkv=>decide<|kv.1=k)=true then kvs.map (λkv=>if kv.1=k then(kv.1,v) else kv) else kvs++[(k,v)]
theorem oF{p:κ×V}{r:List (κ×V)}{k:κ}(e:p.1=k):lQ (p::r) k=some p.2:=by simp[lQ,kK,e]
theorem lP{p:κ×V}{r:List (κ×V)}{k:κ}(e:¬ p.1=k):lQ (p::r) k=lQ r k:=by simp[lQ,kK,e]
theorem xO(k:κ):∀kvs:List (κ×V),(kvs.any λkv=>decide<|kv.1=k)=(lQ kvs k).isSome
 |[]=>rfl
 |p::r=>by
  rw[tP]
  by_cases e:p.1=k
  ·simp only[oF e,decide_eq_true e,aDq,Option.isSome_some]
  ·rw[lP e,decide_eq_false e,aCA];exact xO k r
theorem wO{kvs:List (κ×V)}{k:κ}(v:V)(h:lQ kvs k=none):aLO kvs k v=kvs++[(k,v)]:=by unfold aLO;rw[xO,h];exact if_neg<|by decide
theorem RelO.isSome_eq{o:Option V}{u:Option BH}(r:RelO o u):o.isSome=u.isSome:=by
 cases o with
 |none=>cases u with
  |none=>rfl
  |some _=>exact(show False from r).elim
 |some _=>cases u with
  |none=>exact(show False from r).elim
  |some _=>rfl
end
theorem aPz{P:AD}{w:AL}{k:Key}{u:BH}(r:RelV (kV k) u):(fJ P w).is k u=true:=by
 cases k with
 |inl i=>obtain⟨t,e⟩:=(show ∃t,u=Value.int i t from r);subst e;exact aBk P w i t
 |inr x=>obtain⟨t,e⟩:=(show ∃t,u=Value.str x t from r);subst e;exact aBr P w x t
theorem aAe{P:AD}{w:AL}:∀ {ks:List Key}{us:List BH},Vals (ks.map kV) us->ItemsAre (fJ P w) ks us
 |[],_,r=>by rw[fD] at r;cases r;exact .nil
 |k::ks,_,r=>by
  rw[aZ] at r;cases r with
  |cons h t=>exact .cons (aPz h)<|aAe t
abbrev KT(H:Hp):List (List Key×V)->List (List Key×BJ×BH)->Prop:=Paired λp q=>p.1=q.1/\H q.2.1=some (.tup<|p.1.map kV)/\RelV p.2 q.2.2
theorem KT.val{kvs:List (List Key×V)}{xs:List (List Key×BJ×BH)}(r:KT H kvs xs)(k:List Key):RelO (lQ kvs k) ((atKey xs k).map (·.2)):=by
 induction r with
 |nil=>exact True.intro
 |@cons p q ps qs h t ih=>
  obtain⟨h1,_,h2⟩:=h
  by_cases e:p.1=k
  ·have e':q.1=k:=h1.symm.trans e;have b:atKey (q::qs) k=some q.2:=by simp[atKey,kK,e']
   rw[oF e,b];exact h2
  ·have e':¬ q.1=k:=λz=>e (h1.trans z)
   have b:atKey (q::qs) k=atKey qs k:=by simp[atKey,kK,e']
   rw[lP e,b];exact ih
theorem KT.repl{kvs:List (List Key×V)}{xs:List (List Key×BJ×BH)}(r:KT H kvs xs)(k:List Key){y:V}{u:BH}(ry:RelV y u):
  KT H (kvs.map λkv=>if kv.1=k then(kv.1,y) else kv) (xs.map<|putAt k u):=by
 induction r with
 |nil=>exact .nil
 |@cons p q ps qs h t ih=>
  rw[aZ,aZ];refine .cons ?_ ih;obtain⟨h1,h2,h3⟩:=h;unfold putAt
  by_cases e:p.1=k
  ·rw[if_pos e,if_pos<|h1.symm.trans e];exact⟨h1,h2,ry⟩
  ·rw[if_neg e,if_neg (λz=>e<|h1.trans z)];exact⟨h1,h2,h3⟩
theorem KT.put{kvs:List (List Key×V)}{xs:List (List Key×BJ×BH)}(r:KT H kvs xs)(k:List Key){y:V}{u:BH}(hb:H b=some (.tup<|k.map kV))(ry:RelV y u):
  KT H (aLO kvs k y) (storedH xs k b u):=by
 have e:(kvs.any λkv=>decide<|kv.1=k)=(atKey xs k).isSome:=by rw[xO,(r.val k).isSome_eq,aGx]
 unfold aLO storedH;rw[e]
 by_cases q:(atKey xs k).isSome=true
 ·rw[if_pos q,if_pos q];exact r.repl k ry
 ·rw[if_neg q,if_neg q];exact Paired.snoc r ⟨rfl,hb,ry⟩
theorem KT.keeps{H':Hp}{kvs:List (List Key×V)}{xs:List (List Key×BJ×BH)}(r:KT H kvs xs)(ht:∀b ys,H b=some (.tup ys)->H' b=some (.tup ys)):KT H' kvs xs:=
 Paired.mapP r λ_ _ z=>⟨z.1,ht _ _ z.2.1,z.2.2⟩
variable {P:AD}{w:AL}{h:BL}{a:BJ}
theorem tW{ks:List Key}(ok:HOk P w H h)(e:H a=some (.tup<|ks.map kV)):(Aq<|fJ P w).is h ks a:=by obtain⟨_,its,r,o,h1,h2,⟨n,h3⟩,_⟩:=(show ObjOk P w H h a (.tup<|ks.map kV) from ok a _ e);exact⟨o,its.toArray,n,h1,h2,h3,by simpa using aAe r⟩
variable {y v:V}{u r:BH}{o:Option V}{A:BK}{E:BH->BI->Prop}
theorem Inv.big(I:Inv X pins σ H s):An<s.heap.objs.size:=by have h:AO<s.heap.objs.size:=(I.mod.glob.keeps I.bk).lt;exact pY (by decide) h
theorem vR{h':BL}{t':Nat}{ob:HO}(I:Inv X pins σ H s)(mu:Mut (H a))(hs:Heap.SameBut a s.heap h')(he:∃q,h'.get? a=some q)(new:ObjOk X.prog X.w (upd H a ob) h' a ob):
  Inv X pins σ (upd H a ob) {s with heap:=h',toks:=t'}:=
 I.write (x:=a) (e:=a) mu (.inl rfl) (λb q hb z=>(hs.2 b hb).trans z) he new
def aQB(i:Expr):Prop:=∀ov iv,subscripted i false ov iv=operate [ov,iv] (getItem ov iv)
theorem aKm{prog:AD}{env:Env}{value slice:Expr}{Q:BH->BI->Prop}
  (hl:typeLookup (.type T) "__getitem__"=pure (some<|.builtin id)) (hs:aQB slice)
  (h:AI (AG prog w) A (eval value env) (λo s₁=>AI (AG prog w) A (eval slice env) (λi s₂=>s₂.TypeIs o T/\AI (AG prog w) A (getItem o i) Q E s₂) E s₁) E s):
  AI (AG prog w) A (eval (.Subscript value slice pos) env) Q E s:=by
 refine Subscript_<|Ac h (λo s₁ h₁=>Ac h₁ (λi s₂ h₂=> ?_) λ_ _ x=>x) λ_ _ x=>x;obtain⟨hT,h₂⟩:=h₂;unfold subscriptTail;refine AA ?_;rw[getitemInPython_of_ne hT.not_modules];refine AA<|wpAny_specialOf hT hl ?_
 have fin:AI (AG prog w) A (subscripted slice false o i) (λr s₃=>AI (AG prog w) A (letTemporaryGo value o r>>=λ_=>pure r) Q E s₃) E s₂:=by rw[hs o i];exact wpAny_operating<|Ac h₂ (λr s₃ h₃=>AA (wpAny_letTemporaryGo<|AB h₃)) λ_ _ x=>x
 first
  |exact AB (AA fin)
  |exact AA (AB<|AA fin)
  |exact AA fin
abbrev VV:List (V×V)->List (BH×BH)->Prop:=Paired λp q=>RelV p.1 q.1/\RelV p.2 q.2
structure M1(X:Cx)(o:Expr)(m:Str)(apos:Pos)(e:Expr)(cpos:Pos):Prop where
 base:attributeBase o m X.env (eval o X.env)=eval o X.env
 few:((Au cpos (AF [e] X.env)).all (fun x=> !x.1) && (backToKw cpos (keywordEach [] X.env)).all (fun x=>x.1.isSome)
 &&decide (([e]:List Expr).length+([]:List Keyword).length+(if([]:List Keyword).isEmpty then 0 else 1)<30))=true
 line:(apos.endLine==cpos.line)=true
 trees:Au cpos (AF [e] X.env)=[(false,eval e X.env)]
structure M2(X:Cx)(o:Expr)(m:Str)(apos:Pos)(e f:Expr)(cpos:Pos):Prop where
 base:attributeBase o m X.env (eval o X.env)=eval o X.env
 few:((Au cpos (AF [e,f] X.env)).all (fun x=> !x.1) && (backToKw cpos (keywordEach [] X.env)).all (fun x=>x.1.isSome)
 &&decide (([e,f]:List Expr).length+([]:List Keyword).length+(if([]:List Keyword).isEmpty then 0 else 1)<30))=true
 line:(apos.endLine==cpos.line)=true
 trees:Au cpos (AF [e,f] X.env)=[(false,eval e X.env),(false,eval f X.env)]
end L2
namespace Att
open PySem PySem.W PySem.Calls PyProof.Rows
theorem uW{P:Params}{h:BL}:∀ (ns:List Int) (vs:List BH),WellAll P h vs (ns.map WData.int)->IntsAre vs ns:=by
 intro ns
 induction ns with
 |nil=>intro vs w;rw[fD] at w;cases w;exact .nil
 |cons n ns ih=>
  intro vs w;rw[aZ] at w;cases w with
  |cons a b=>cases a;exact .cons _ _<|ih _ b
theorem aFP{l:OpenLaw}{n:Nat}(hn:l.most=some n){P:Params}{h:BL}{args:List WData}{vals:List BH}
  (hpre:l.row.toRowW.claim.pre args=true) (hwl:WellAll P h vals args):
  ∃a vs ns,vals=[Value.ref a]/\args=[WData.list<|ns.map WData.int]/\h.get? a=some {cls:=.type "list",data:=.seq vs.toArray}/\IntsAre vs ns/\ns.length<=n:=by
 have hsh:WShape.hasAll [] args [.list .int]=true:=(pre_splitW hpre).1;have hc:l.pre.holds [] {args:=args}=true:=(pre_splitW hpre).2;obtain⟨d,r,rfl,h1,h2⟩:=hasAllW_cons hsh;obtain rfl:=hasAllW_nil h2;obtain⟨xs,rfl,h3⟩:=hasW_list h1;obtain⟨ns,rfl⟩:=items_int h3
 have hlen:ns.length<=n:=by
  unfold OpenLaw.pre at hc
  have h4:(WTm.not<|.lt (.lit<|.int (n:Int)) (.len<|.arg 0)).holds [] {args:=[.list<|ns.map .int]}=true:=by have h4:=(holds_andW hc).1;rw[hn] at h4;exact h4
  have h5:=condW_of h4 (w_not<|w_lt w_lit (w_len_list<|w_arg rfl));rw[aA] at h5;refine aLL λq=> ?_
  have q':(n:Int)<((ns.length:Nat):Int):=by omega
  first
   |(rw[decide_eq_true q'] at h5;exact absurd h5<|by decide)
   |(simp at h5;omega)
 cases hwl with
 |cons w1 w2=>
  cases w2;cases w1 with
  |list ho hall=>exact⟨_,_,ns,rfl,rfl,ho,uW ns _ hall,hlen⟩
theorem aGi(l:OpenLaw)(args:List WData):l.row.toRowW.claim.post args (.bool true) args=true:=
 postW_of (r:=l.row.toRowW) (X:=(true==true))
  (show WShape.has [] (.bool true) .bool=true by first|rfl|decide|simp[WShape.has,WShape.arms,WShape.armsAll])
  (show(WTm.eq .res (.lit<|.bool true)).value [] {args:=args,res:=some<|.bool true,after:=args}=some (.bool<|true==true) from w_eq_bool (w_res rfl) w_lit) rfl
end Att
namespace L2
open PySem PySem.Spec PyProof.Rows
theorem aAj:∀ {vs:List BH}{ns:List Int},IntsAre vs ns->Vals (ns.map V.int) vs
 |_,_,.nil=>.nil
 |_,_,.cons n t h=>.cons ⟨t,rfl⟩<|aAj h
def aOZ(H:Hp):Prop:=∀b,H b=none\/∃o xs,H b=some (.frz o<|.lst xs)
theorem aHU{P:AD}{w:AL}{K:aB}{mg mb:Str->Option BH}{CX:CXT}{k:Nat}{fa a:BJ}{fd:AW}{x:Str}{sp:Sp}{s₁:BI}{vs:List BH}{ns:List Int}
  (KX:K.In s₁.heap) (hns:s₁.heap.Ns AO mg) (hb:s₁.heap.Ns builtinsNs mb) (hbb:∀x:Str,x≠"__name__"->mb x=Ap x) (hlim:s₁.heap.NoLimit) (hg:s₁.gens= #[])
  (ha:s₁.heap.get? a=some {cls:=.type "list",data:=.seq vs.toArray}) (hi:IntsAre vs ns) (hl:ns.length<=AN) (hr:Room k callerA)
  (F:∀base:BL,K.In base->base.Ns AO mg->FnOk P w K mg base CX k fa fd [x] sp) (hbind:∀ (s:BI) (u:BH),BindsTo s fd ⟨[u],[]⟩ [(x,u)])
  (hsp:∀H:Hp,aOZ H->SqL K H a (ns.map V.int)->sp [.ref a] H (λv _=>v=.bl true) λ_ _ _=>False)
  (hCX:∀H e s',CX [] H s₁ (λ_ _ _=>False) e s'->False):
  codeAny (AG P w) callerA (.call (.ref fa) ⟨[.ref a],[]⟩) (λr s'=>r=.ok (.ret<|.bool true)/\OldK s₁.heap s'.heap/\s'.os=s₁.os/\AllBare s'.gens) s₁:=by
 have rv:=aAj hi;have lenV:=hi.length
 have core:∀H:Hp,aOZ H->SqL K H a (ns.map V.int)->HOk P w H s₁.heap->(∀b,H b≠none->b=a)->(H a≠none->K.lookup a=none)->
   codeAny (AG P w) callerA (.call (.ref fa) ⟨[.ref a],[]⟩) (λr s'=>r=.ok (.ret<|.bool true)/\OldK s₁.heap s'.heap/\s'.os=s₁.os/\AllBare s'.gens) s₁:=by
  intro H hO hS hok hA hK;have base_of:∀ {b:BJ}{o:BM},s₁.heap.get? b=some o->H b=none->(aGD s₁.heap H).get? b=some o:=λe n=>aHk e n
  have noA:∀ {b:BJ}{o:BM}{es:Array DictEntry}{ep:Nat},s₁.heap.get? b=some o->o.data=.dict es ep->H b=none:=λ{b o es ep} e d=>by
   cases q:H b with
   |none=>rfl
   |some u=>have e':b=a:=hA b (by rw[q];simp);subst e';rw[ha] at e;cases e;have d':Data.seq vs.toArray _=Data.dict es ep:=d;cases d'
  have nsK:∀ {b:BJ}{m:Str->Option BH},s₁.heap.Ns b m->(aGD s₁.heap H).Ns b m:=λ{b m} ⟨o,es,ep,e,d,r⟩=>⟨o,es,ep,base_of e<|noA e d,d,r⟩
  have hKb:K.In (aGD s₁.heap H):=fun b o e=>base_of (KX b o e) (by
   cases q:H b with
   |none=>rfl
   |some u=>
    have e':b=a:=hA b (by rw[q];simp);subst e'
    rw[hK (by rw[q];simp)] at e;cases e)
  have hM:Mod K mg (aGD s₁.heap H):=⟨hKb,nsK hns,⟨mb,nsK hb,hbb⟩,let ⟨mc,h1,h2⟩:=hlim;⟨mc,nsK h1,h2⟩⟩;have e0:aLE P w K mg (aGD s₁.heap H) callerA [] s₁ H:=⟨rfl,hM,λb o e=>aKI e,aGm<|aGg _ _,trivial,λb hb=>absurd (show b∈([]:List BJ) from hb)<|by simp,hok,.of_eq hg⟩;refine Aw ((F _ hKb<|nsK hns).run callerA [] s₁ H ⟨[.ref a],[]⟩ [.ref a] [.ref a] _ _ hr e0 (hbind s₁<|.ref a) (.cons rfl .nil)<|hsp H hO hS) λr s' h=> ?_
  cases r with
  |error e=>exact(hCX H e s' h).elim
  |ok fl=>
   cases fl with
   |next=>exact False.elim h
   |brk=>exact False.elim h
   |cont=>exact False.elim h
   |ret u=>
    obtain⟨v,H',os,bare,un,hok',r',q⟩:=h;have q':v=.bl true:=q;subst q';obtain rfl:u=Value.bool true:=r';refine⟨rfl,OldK.of_keep λb o e=> ?_,os,bare⟩;cases q:H b with
    |none=>exact un.keep b o e q (by intro z;exact absurd (show b∈([]:List BJ) from z)<|by simp)<|by simp
    |some u=>
     rcases hO b with z|⟨ob,xs,z⟩
     ·rw[q] at z;cases z
     ·have z2:=un.frzs b ob _ z;obtain⟨e1,_⟩:=hok b _ z;obtain⟨e2,_⟩:=hok' b _ z2;rw[e] at e1;cases e1;exact e2
 cases hk:K.lookup a with
 |some o=>
  have e:=KX a o hk;rw[ha] at e;cases e;refine core (λ_=>none) (λ_=>.inl rfl) (.inr ⟨_,vs.toArray,_,hk,rfl,rfl,rfl,by rw[aV,lenV];exact hl,by simpa using rv⟩) (λb u z=>by have z':(none:Option HO)=some u:=z;cases z') (λb z=>absurd rfl z) λz=>absurd rfl z
 |none=>
  refine core (λb=>if b=a then some (.frz {cls:=.type "list",data:=.seq vs.toArray} (.lst<|ns.map V.int)) else none) (λb=> ?_) (.inl<|.inr ⟨{cls:=.type "list",data:=.seq vs.toArray},if_pos rfl⟩) (λb u z=> ?_) (λb z=> ?_) λ_=>hk
  ·by_cases hb:b=a
   ·exact .inr ⟨_,_,if_pos hb⟩
   ·exact .inl<|if_neg hb
  ·by_cases hb:b=a
   ·have z':=(if_pos hb).symm.trans z;cases z';subst hb;exact⟨ha,by rw[aA];exact hl,vs,_,rv,ha⟩
   ·have z':=(if_neg hb).symm.trans z;cases z'
  ·by_cases hb:b=a
   ·exact hb
   ·exact absurd (if_neg hb) z
noncomputable abbrev KOf{K:aB}{h:BL}(_:K.In h):aB:=K
noncomputable def kU(s:BN):Arguments:=match s with
 |.FunctionDef _ a _ _ _ _ _ _ _ _=>a
 |_=>{posonlyargs:=[],args:=[],vararg:=none,kwonlyargs:=[],kw_defaults:=[],kwarg:=none,defaults:=[]}
noncomputable def iG(s:BN):List BN:=match s with
 |.FunctionDef _ _ b _ _ _ _ _ _ _=>b
 |_=>[]
noncomputable def bI(s:BN):Scope:=match s with
 |.FunctionDef _ _ _ _ _ _ sc _ _ _=>sc
 |_=>{kind:=.function,names:=[],isGenerator:=false,isCoroutine:=false}
noncomputable abbrev CX0:CXT:=λ_ _ _ _ _ _=>False
noncomputable abbrev E0:XK:=λ_ _ _=>False
theorem aMh{X:Cx}:aDy CX0 X E0:=λ_ _ _ _ _ _ _ h=>h.elim
structure Fun(K:aB)(x qual:Str)(st:BN)(f:BJ)(fd:AW):Prop where
 ex:∃ (oc:BH) (od:Option BJ) (kV doc pm:BH) (an:Option BJ) (cdv ct:BH) (osl:Array (Option BH)),
  fd=gC x qual (kU st) (iG st) (bI st) .none kV doc pm an cdv ct/\K.lookup f=some ⟨oc,od,.func fd,osl⟩/\lA K cdv qual=true
 kp:eG K (.ref f)=true
variable {P:AD}{w:AL}{K:aB}{mg:Str->Option BH}{base:BL}
theorem Fun.ok{x qual:Str}{st:BN}{f:BJ}{fd:AW}{N ps:List Str}{k:Nat}{sp:Sp}(F:Fun K x qual st f fd)(S:pB N ps (bI st))(len:∀vs H Q E,sp vs H Q E->vs.length=ps.length)
  (hbody:∀ (cdv:BH) (A:BK) (outer:List Env) (s:BI) (H:Hp) (vs:List V) (Q:VK) (E:XK),Room k (A.deeper (Af qual (bI st) s.heap.objs.size f cdv))→sp vs H Q E→
   ∃t,PSs (nG CX0 P w K mg base N qual (bI st) f cdv A outer s H E).nox (iG st) t/\t {nx:=λ_ H'=>Q .non H',rt:=Q} (start N vs) H):FnOk P w K mg base CX0 (k+1) f fd ps sp:=by
 obtain⟨oc,od,kV,doc,pm,an,cdv,ct,osl,rfl,lk,hcd⟩:=F.ex;refine aPe lk hcd S len λA outer s H vs Q E hr hsp=> ?_
 obtain⟨t,h,q⟩:=hbody cdv A outer s H vs Q E hr hsp;exact⟨t,h.nox,q⟩
theorem Fun.binds{x qual:Str}{st:BN}{f:BJ}{fd:AW}{ps:List Str}(F:Fun K x qual st f fd)
  (h:∀ (kV doc pm:BH) (an:Option BJ) (cdv ct:BH) (us:List BH),us.length=ps.length->bindArgs (gC x qual (kU st) (iG st) (bI st) .none kV doc pm an cdv ct) ⟨us,[]⟩=pure (ps.zip us)):Binds K fd ps []:=by
 obtain⟨oc,od,kV,doc,pm,an,cdv,ct,osl,rfl,lk,hcd⟩:=F.ex;exact .all<|h kV doc pm an cdv ct
theorem aID{x qual:Str}{st:BN}{f:BJ}{oc:BH}{od an:Option BJ}{osl:Array (Option BH)}{kV doc pm cdv ct:BH}(l:K.lookup f=some ⟨oc,od,.func<|gC x qual (kU st) (iG st) (bI st) .none kV doc pm an cdv ct,osl⟩)
  (c:lA K cdv qual=true) (k:eG K (.ref f)=true):Fun K x qual st f (gC x qual (kU st) (iG st) (bI st) .none kV doc pm an cdv ct):=⟨⟨oc,od,kV,doc,pm,an,cdv,ct,osl,rfl,l,c⟩,k⟩
theorem gQ{n:Nat}(h:n<=1000):n<AN:=cB h<|by decide
variable {X:Cx}
theorem pv(i:Nat){x:Str}{pos:Pos}(hN:X.N[i]? =some x:=by rfl)(hv:Vis X.env.scope x:=by first|exact Or.inl rfl|exact Or.inr (Or.inl rfl)|exact Or.inr (Or.inr rfl))(hd:(x==("__debug__":Str))=false:=by decide)
  (hcd:(x==("__classdict__":Str))=false:=by decide):PE X (.Name x pos) (mW i):=aMS hN hv hd hcd
theorem aIj{A B:Prop}(h:B):if false=true then A else B:=by rw[if_neg bY];exact h
theorem aIg{A B:Prop}(h:A):if true=true then A else B:=by rw[if_pos rfl];exact h
def Same(H H':Hp):Prop:=∀b o,H b=some o->H' b=some o
theorem Same.refl(H:Hp):Same H H:=λ_ _ h=>h
theorem Same.trans{H H1 H2:Hp}(a:Same H H1)(b:Same H1 H2):Same H H2:=λc o h=>b c o<|a c o h
theorem Same.free{H H':Hp}(e:Same H H'){l:BJ}(h:H' l=aOA):H l=aOA:=by
 cases q:H l with
 |none=>rfl
 |some o=>rw[e l o q] at h;cases h
theorem Same.seq{H H':Hp}{a:BJ}{xs:List V}(e:Same H H')(h:SqL K H a xs):SqL K H' a xs:=by
 rcases h with(h|⟨o,h⟩)|h
 ·exact .inl (.inl<|e _ _ h)
 ·exact .inl<|.inr ⟨o,e _ _ h⟩
 ·exact .inr h
noncomputable def wE(X:Cx)(e:Expr):TE:=λσ H Q=>∀ (pins:List (BJ×BM)) (s:BI),Inv X pins σ H s->AI (AG X.prog X.w) X.A (eval e X.env) (EP X pins σ Q) X.xe s
noncomputable def wT(X:Cx)(e:Expr):TT:=λσ H Q=>∀ (pins:List (BJ×BM)) (s:BI),Inv X pins σ H s->AI (AG X.prog X.w) X.A (isTrue e X.env<|eval e X.env) (TP X pins σ Q) X.xe s
noncomputable def wW(X:Cx)(e:Expr):TT:=λσ H Q=>∀ (whole:Sem BH) (pins:List (BJ×BM)) (s:BI),Inv X pins σ H s->AI (AG X.prog X.w) X.A (isTrue e X.env whole) (TP X pins σ Q) X.xe s
noncomputable def wA(X:Cx)(es:List Expr):TA:=λσ H Q=>∀ (pos:Pos) (pins:List (BJ×BM)) (s:BI),Inv X pins σ H s->AI (AG X.prog X.w) X.A (spliced (Au pos<|AF es X.env)) (AP X pins σ Q) X.xe s
noncomputable def wS(X:Cx)(st:BN):TS:=λD σ H=>∀ (pins:List (BJ×BM)) (s:BI),Inv X pins σ H s->AI (AG X.prog X.w) X.A (exec st X.env) (SP X pins D) X.xe s
noncomputable def wSs(X:Cx)(sts:List BN):TS:=λD σ H=>∀ (pins:List (BJ×BM)) (s:BI),Inv X pins σ H s->AI (AG X.prog X.w) X.A (execs sts X.env) (SP X pins D) X.xe s
noncomputable def wG(X:Cx)(tg:Expr):TG:=λv σ H Q=>∀ (pins:List (BJ×BM)) (s:BI) (u:BH),Inv X pins σ H s->RelV v u->
  AI (AG X.prog X.w) X.A (assign tg X.env u) (λ_ s'=>∃σ' H',Inv X pins σ' H' s'/\Q σ' H') X.xe s
noncomputable def wI(X:Cx)(tg iter:Expr):TI:=λσ H R=>∀ (pins:List (BJ×BM)) (s:BI),Inv X pins σ H s->
  AI (AG X.prog X.w) X.A (eval iter X.env) (λv s1=>AI (AG X.prog X.w) X.A (pyIter v) (PIE X pins σ tg R) X.xe s1) X.xe s
variable {e:Expr}{es:List Expr}{st:BN}{sts:List BN}{tg iter:Expr}{σ:St}{H:Hp}
theorem gP:PE X e (wE X e):=λpins s _ _ _ I h=>h pins s I
theorem aJx:PT X e (wT X e):=λpins s _ _ _ I h=>h pins s I
theorem aOS:PW X e (wW X e):=λw pins s _ _ _ I h=>h w pins s I
theorem aGB:PA X es (wA X es):=λpos pins s _ _ _ I h=>h pos pins s I
theorem aQm:PS X st (wS X st):=λpins s _ _ _ I h=>h pins s I
theorem uO:PSs X sts (wSs X sts):=λpins s _ _ _ I h=>h pins s I
theorem aOG:PG X tg (wG X tg):=λpins s _ _ _ u _ I r h=>h pins s u I r
theorem aQu:PI X tg iter (wI X tg iter):=λpins s _ _ _ I h=>h pins s I
theorem PE.to{t:TE}{Q:VK}(h:PE X e t)(q:t σ H Q):wE X e σ H Q:=λpins s I=>h pins s σ H Q I q
theorem PT.to{t:TT}{Q:Bool->Hp->Prop}(h:PT X e t)(q:t σ H Q):wT X e σ H Q:=λpins s I=>h pins s σ H Q I q
theorem PW.to{t:TT}{Q:Bool->Hp->Prop}(h:PW X e t)(q:t σ H Q):wW X e σ H Q:=λw pins s I=>h w pins s σ H Q I q
theorem PA.to{t:TA}{Q:List V->Hp->Prop}(h:PA X es t)(q:t σ H Q):wA X es σ H Q:=λpos pins s I=>h pos pins s σ H Q I q
theorem PS.to{t:TS}{D:uU}(h:PS X st t)(q:t D σ H):wS X st D σ H:=λpins s I=>h pins s σ H D I q
theorem PSs.to{t:TS}{D:uU}(h:PSs X sts t)(q:t D σ H):wSs X sts D σ H:=λpins s I=>h pins s σ H D I q
theorem wE.imp{Q Q':VK}(h:wE X e σ H Q)(k:∀v H',Q v H'->Q' v H'):wE X e σ H Q':=λpins s I=>thn (h pins s I) λu s' ⟨v,H',I',r,q⟩=>⟨v,H',I',r,k v H' q⟩
theorem wT.imp{Q Q':Bool->Hp->Prop}(h:wT X e σ H Q)(k:∀v H',Q v H'->Q' v H'):wT X e σ H Q':=λpins s I=>thn (h pins s I) λu s' ⟨H',I',q⟩=>⟨H',I',k u H' q⟩
theorem wW.imp{Q Q':Bool->Hp->Prop}(h:wW X e σ H Q)(k:∀v H',Q v H'->Q' v H'):wW X e σ H Q':=λw pins s I=>thn (h w pins s I) λu s' ⟨H',I',q⟩=>⟨H',I',k u H' q⟩
theorem wA.imp{Q Q':List V->Hp->Prop}(h:wA X es σ H Q)(k:∀v H',Q v H'->Q' v H'):wA X es σ H Q':=λpos pins s I=>thn (h pos pins s I) λu s' ⟨v,H',I',r,q⟩=>⟨v,H',I',r,k v H' q⟩
theorem SP.imp{pins:List (BJ×BM)}{D D':uU}{f:Flow}{s:BI}(h:SP X pins D f s)(k1:∀σ H,D.nx σ H->D'.nx σ H)(k2:∀v H,D.rt v H->D'.rt v H)(k3:∀σ H,D.bk σ H->D'.bk σ H)(k4:∀σ H,D.ct σ H->D'.ct σ H):SP X pins D' f s:=by
 cases f with
 |next=>obtain⟨σ',H',I,q⟩:=h;exact⟨σ',H',I,k1 _ _ q⟩
 |brk=>obtain⟨σ',H',I,q⟩:=h;exact⟨σ',H',I,k3 _ _ q⟩
 |cont=>obtain⟨σ',H',I,q⟩:=h;exact⟨σ',H',I,k4 _ _ q⟩
 |ret u=>obtain⟨v,σ',H',I,r,q⟩:=h;exact⟨v,σ',H',I,r,k2 _ _ q⟩
theorem wSs.imp{D D':uU}(h:wSs X sts D σ H)(k1:∀σ H,D.nx σ H->D'.nx σ H)(k2:∀v H,D.rt v H->D'.rt v H)(k3:∀σ H,D.bk σ H->D'.bk σ H)(k4:∀σ H,D.ct σ H->D'.ct σ H):wSs X sts D' σ H:=
 λpins s I=>thn (h pins s I) λf s' q=>q.imp k1 k2 k3 k4
theorem wG.imp{v:V}{Q Q':St->Hp->Prop}(h:wG X tg v σ H Q)(k:∀σ' H',Q σ' H'->Q' σ' H'):wG X tg v σ H Q':=λpins s u I r=>thn (h pins s u I r) λ_ s' ⟨σ',H',I',q⟩=>⟨σ',H',I',k _ _ q⟩
variable {pins:List (BJ×BM)}{F:Hp}{s:BI}
theorem HOk.track{h:BL}{a:BJ}{o:HO}(ok:HOk P w H h)(hn:H a=none)(new:ObjOk P w (upd H a o) h a o):HOk P w (upd H a o) h:=λb u e=>by
 by_cases hb:b=a
 ·subst hb;rw[cG] at e;cases e;exact new
 ·rw[bV hb] at e;exact(ok b u e).stay (λ_ _ _ q=>q) (λc q=>by rw[bV<|cS q hn];exact q) λc xs q=>by rw[bV<|cS q hn];exact q
theorem Inv.track{a:BJ}{o:HO}(I:Inv X pins σ H s)(hn:H a=none)(h0:X.s₀.heap.objs.size<=a)(hL:a≠X.env.locals)(hc:∀x c,X.env.cells.lookup x=some c->c≠a)
  (hp:∀p∈X.pn++pins,p.1≠a) (new:ObjOk X.prog X.w (upd H a o) s.heap a o):Inv X pins σ (upd H a o) s:=by
 refine⟨I.ok,I.os,I.bare,⟨I.base.keep,I.base.slot,λb u e n hx=> ?_,I.base.there,λb xs e=> ?_,λb u xs e=> ?_,λb ps e=> ?_⟩,I.loc,I.cell, ?_,λx c e=> ?_,λp hp'=> ?_,I.hok.track hn new,I.len⟩
 ·rw[bV (bS<|bE (aS e) h0)];exact I.base.free b u e n hx
 ·have q:=I.base.tups b xs e;rw[bV<|cS q hn];exact q
 ·have q:=I.base.frzs b u xs e;rw[bV<|cS q hn];exact q
 ·obtain⟨m,q⟩:=I.base.tbls b ps e;exact⟨m,by rw[bV<|cS q hn];exact q⟩
 ·rw[bV<|Ne.symm hL];exact I.free
 ·rw[bV<|hc x c e];exact I.freeC x c e
 ·obtain⟨e,n,r⟩:=I.pin p hp';exact⟨e,by rw[bV<|hp p hp'];exact n,r⟩
noncomputable def aOX:HO->Prop
 |.lst _=>True
 |.tup _=>True
 |.dK _=>True
 |.frz _ (.lst _)=>True
 |.frz _ (.dK _)=>True
 |.ext _=>True
 |_=>False
def Smp(H:Hp):Prop:=∀b o,H b=some o->aOX o
theorem ObjOk.smp{h:BL}{a:BJ}{o:HO}(z:aOX o)(x:ObjOk P w H h a o):ObjOk P w F h a o:=by
 cases o with
 |lst xs=>exact x
 |tup xs=>exact x
 |dK kvs=>exact x
 |frz ob u=>cases u with
  |lst xs=>exact x
  |dK kvs=>exact x
  |_=>exact absurd z λq=>q
 |ext φ=>exact x
 |_=>exact absurd z λq=>q
theorem Smp.sub(h:Smp H)(s:Same F H):Smp F:=λb o e=>h b o<|s b o e
theorem Inv.less(I:Inv X pins σ H s)(hF:Same F H)(h0:Same X.B₀ F)(hs:Smp F):Inv X pins σ F s:=by
 refine⟨I.ok,I.os,I.bare,⟨I.base.keep,I.base.slot,λb u e n hx=>hF.free<|I.base.free b u e n hx,I.base.there,λb xs e=>h0 _ _<|X.hB _ _ e trivial,λb u xs e=>h0 _ _<|X.hB _ _ e trivial,λb ps e=>⟨#[], ?_⟩⟩,I.loc,I.cell,hF.free I.free,λx c e=>hF.free<|I.freeC x c e,λp hp=> ?_,λb o e=>(I.hok b o<|hF b o e).smp<|hs b o e,I.len⟩
 ·have q:=h0 _ _<|X.hB _ _ e trivial;rw[q];simp
 ·obtain⟨e,n,r⟩:=I.pin p hp;exact⟨e,hF.free n,r⟩
noncomputable def clo(cells:List (Str×BJ)):List (Str×NameKind)->List (Str×BJ)->List (Str×BJ)
 |[],cs=>cs
 |(n,k)::r,cs=>clo cells r (if(k==NameKind.free)=true then(n,(cells.lookup n).getD 0)::cs else cs)
theorem rN{env:Env}:∀ (names:List (Str×NameKind)) (cs:List (Str×BJ)),(∀y∈names,y.2=.free->∃c,env.cells.lookup y.1=some c)->
  (forIn names cs (λ(x:Str×NameKind) (r:List (Str×BJ))=>if(x.2==NameKind.free)=true then(do let c <-cellOf env x.1;pure (ForInStep.yield ((x.1,c)::r))) else pure (ForInStep.yield r)):Sem (List<|Str×BJ))=pure (clo env.cells names cs)
 |[],cs,_=>rfl
 |(n,k)::r,cs,h=>by
  rw[List.forIn_cons]
  by_cases hk:(k==NameKind.free)=true
  ·obtain⟨c,hc⟩:=h (n,k) aH (by simpa using hk)
   have e:cellOf env n=pure c:=by unfold cellOf;have hc':env.cells.lookup n=some c:=hc;rw[hc']
   simp only[hk,if_true,e,pure_bind,clo];have hc':env.cells.lookup n=some c:=hc;rw[hc'];exact rN r _ λy hy=>h y<|aI _ hy
  ·simp only[hk,aX,if_false,pure_bind,clo];exact rN r _ λy hy=>h y<|aI _ hy
theorem wM{env:Env}{scope:Scope}(h:∀y∈scope.names,y.2=.free->∃c,env.cells.lookup y.1=some c):closureFor scope env=pure (clo env.cells scope.names []):=by simp only[closureFor];have e:=rN (env:=env) scope.names [] h;simp only[bind_pure] ;exact e
theorem aCs(cells:List (Str×BJ)):∀ (names:List (Str×NameKind)) (cs:List (Str×BJ)) (x:Str) (c:BJ),(clo cells names cs).lookup x=some c->cs.lookup x=some c\/((x,NameKind.free)∈names/\c=(cells.lookup x).getD 0)
 |[],cs,x,c,h=>.inl h
 |(n,k)::r,cs,x,c,h=>by
  rcases aCs cells r _ x c h with q|⟨q1,q2⟩
  ·by_cases hk:(k==NameKind.free)=true
   ·rw[if_pos hk,fE] at q;have ek:k=.free:=by simpa using hk
    by_cases hx:(x==n)=true
    ·simp only[hx] at q;have e:x=n:=by simpa using hx
     subst e;exact .inr ⟨by rw[ek];exact aH,(cA.inj q).symm⟩
    ·have hx':(x==n)=false:=by simpa using hx
     simp only[hx'] at q;exact .inl q
   ·rw[if_neg hk] at q;exact .inl q
  ·exact .inr ⟨aI _ q1,q2⟩
theorem aEG(cells:List (Str×BJ)):∀ (names:List (Str×NameKind)) (cs:List (Str×BJ)) (x:Str),(x,NameKind.free)∈names\/(∃c,cs.lookup x=some c)->∃c,(clo cells names cs).lookup x=some c
 |[],cs,x,h=>h.elim (λz=>nomatch z) λz=>z
 |(n,k)::r,cs,x,h=>by
  refine aEG cells r _ x ?_
  by_cases hk:(k==NameKind.free)=true
  ·rw[if_pos hk]
   by_cases hx:(x==n)=true
   ·exact .inr ⟨(cells.lookup n).getD 0,by rw[fE];simp only[hx]⟩
   ·have hx':(x==n)=false:=by simpa using hx
    rcases h with q|⟨c,q⟩
    ·rcases aW.mp q with z|z
     ·cases z;exact absurd (by simp) hx
     ·exact .inl z
    ·exact .inr ⟨c,by rw[fE];simp only[hx'];exact q⟩
  ·rw[if_neg hk]
   rcases h with q|q
   ·rcases aW.mp q with z|z
    ·cases z;exact absurd rfl hk
    ·exact .inl z
   ·exact .inr q
theorem sM{env:Env}:∀ {names:List (Str × NameKind)} {x:Str},((names.map fun (n,k)=>if (k==NameKind.free && env.scope.kind== .function && env.kindOf n==some .cell) then (n,NameKind.cell) else (n,k)).lookup x=some .cell∨
   (names.map λ(n,k)=>if(k==NameKind.free&&env.scope.kind==.function&&env.kindOf n==some .cell) then(n,NameKind.cell) else(n,k)).lookup x=some .free)->names.lookup x=some .cell\/names.lookup x=some .free
 |[],x,h=>by simp at h
 |(n,k)::r,x,h=>by
  have ih:= @sM env r x;rw[aZ] at h;rw[fE]
  by_cases hc:(k==NameKind.free&&env.scope.kind==.function&&env.kindOf n==some .cell)=true
  ·simp only[hc,if_true,fE] at h;cases hx:x==n with
   |true=>
    have hk:k=.free:=by have:=hc;simp only[bC,beq_iff_eq] at this;exact this.1.1
    exact .inr (by rw[hk])
   |false=>simp only[hx] at h ⊢;exact ih h
  ·have hc':(k==NameKind.free&&env.scope.kind==.function&&env.kindOf n==some .cell)=false:=by simpa using hc
   simp only[hc',aX,if_false,fE] at h;cases hx:x==n with
   |true=>simp only[hx] at h ⊢;exact h
   |false=>simp only[hx] at h ⊢;exact ih h
theorem aFe{prog:AD}{A:BK}{R:Result->BI->Prop}{elt target:Expr}{ifs:List Expr}{scope:Scope}{pos:Pos}{it acc:BH}{env:Env}(Ξ:BH->BI->Prop)(hΞ:∀e s,Ξ e s->notedBy (AG prog w) A env (λe s'=>R (.error e) s') e s)(J:Nat->BI->Prop)
  (turn:∀n s,J n s→AI (AG prog w) A (pyNext it) (fun r s₁=>match r with
   |none=>R (.ok .next) s₁
   | some v=>AI (AG prog w) A (letOwnedTupleGo target it v) (fun _ s₂=>AI (AG prog w) A (assign target env v) (fun _ s₃=>
     AI (AG prog w) A (forIn ifs true fun c r=>if r=true then do let ok ← isTrue c env (eval c env); pure (ForInStep.yield ok) else pure (ForInStep.yield r)) (fun ok s₄=>
      if ok=true then AI (AG prog w) A (eval elt env) (λx s₅=>AI (AG prog w) A (call (.builtin "list.append") [acc,x]) (λ_ s₆=>∃m,m<n/\J m s₆) Ξ s₅) Ξ s₄
      else ∃m,m<n/\J m s₄) Ξ s₃) Ξ s₂) Ξ s₁) Ξ s)
  (n:Nat) (h:J n s):codeAny (AG prog w) A (.compLoop (.ListComp elt [⟨target,iter,ifs,0⟩] scope pos) 0 it acc env) R s:=by
 refine codeAny_loop rfl J (λn s hI=> ?_) n h;show AI _ A ((compTurn (.ListComp elt [⟨target,iter,ifs,0⟩] scope pos) 0 it acc env).onRaise λx=>do noteFrame x env;theTreesLotGoes x) _ _ s;refine wpAny_noted ?_;rw[compTurn_list];refine AA<|wpAny_standAt (AA<|Ac (turn n s hI) (λr s₁ h₁=> ?_) λe s z=>hΞ e s z);cases r with
 |none=>exact AB h₁
 |some v=>
  refine AA<|Ac h₁ (λ_ s₂ h₂=> ?_) λe s z=>hΞ e s z;refine AA<|Ac h₂ (λ_ s₃ h₃=> ?_) λe s z=>hΞ e s z;refine AA<|Ac h₃ (λok s₄ h₄=> ?_) λe s z=>hΞ e s z;cases ok with
  |false=>exact AB ⟨rfl,h₄⟩
  |true=>exact AA (AA<|Ac h₄ (λx s₅ h₅=>AA<|Ac h₅ (λ_ s₆ h₆=>AB<|AB ⟨rfl,h₆⟩) λe s z=>hΞ e s z) λe s z=>hΞ e s z)
noncomputable def aOs(X:Cx)(ifs:List Expr):TT:=λσ H Q=>∀ (pins:List (BJ×BM)) (s:BI),Inv X pins σ H s->
 AI (AG X.prog X.w) X.A (forIn ifs true λc r=>if r=true then do let ok <-isTrue c X.env (eval c X.env);pure (ForInStep.yield ok) else pure (ForInStep.yield r)) (TP X pins σ Q) X.xe s
theorem aCd{Q:Bool->Hp->Prop}(h:Q true H):aOs X [] σ H Q:=λ_ _ I=>wpAny_tests_nil ⟨H,I,h⟩
theorem aCf{c:Expr}{Q:Bool->Hp->Prop}(h:wT X c σ H Q):aOs X [c] σ H Q:=λpins s I=>wpAny_tests_one<|h pins s I
noncomputable def cxB(X:Cx)(N:List Str)(scope:Scope)(cl:List (Str×BJ))(C:BJ)(ex:List BJ)(s:BI)(H:Hp):Cx:=
 {prog:=X.prog,w:=X.w,K:=X.K,mg:=X.mg,base:=X.base,A:=X.A,N:=N,s₀:=s,H₀:=H,env:=compEnvC scope cl C X.env,outer:=X.stack,stack:=X.stack,ex:=ex,fn:=λ_=>false,calm:=true,pn:=[],xe:=λ_ _=>False}
noncomputable def qP(X:Cx)(N:List Str)(scope:Scope)(cl:List (Str×BJ))(C:BJ)(ex:List BJ)(s:BI)(H:Hp)(ξ:BH->BI->Prop):Cx:={cxB X N scope cl C ex s H with xe:=ξ}
noncomputable def yG(cap:List (Option Nat))(σ:St):St:=cap.map λo=>o.bind λk=>(σ[k]?).join
noncomputable def qE(scope sc:Scope):Bool:=scope.names.all λy=>(!(y.2==NameKind.free)||sc.names.lookup y.1==some NameKind.cell)&&!(y.2==NameKind.cell)&&(!(y.2==NameKind.local)||scope.names.lookup y.1==some NameKind.local)
noncomputable def nV(N M:List Str)(scope sc:Scope)(cap:List (Option Nat)):Bool:=cap.length==N.length&&(cap.zip N).all λy=>match y.1 with
 |none=>true
 |some k=>M[k]? ==some y.2&&sc.names.lookup y.2==some NameKind.cell&&scope.names.lookup y.2==some NameKind.free
theorem jQ{env:Env}(hf:env.scope.kind=.function):∀ {names:List (Str×NameKind)}{x:Str},names.lookup x=some .free->env.kindOf x=some .cell->
  (names.map λ(n,k)=>if(k==NameKind.free&&env.scope.kind==.function&&env.kindOf n==some .cell) then(n,NameKind.cell) else(n,k)).lookup x=some .cell
 |[],x,h,_=>by simp at h
 |(n,k)::r,x,h,hc=>by
  rw[aZ];cases hx:x==n with
  |true=>
   have e:x=n:=by simpa using hx
   subst e;rw[fE] at h;simp only[beq_self_eq_true] at h;have ek:k=.free:=cA.inj h;subst ek;have hb:(NameKind.free==NameKind.free&&env.scope.kind==.function&&env.kindOf x==some .cell)=true:=by rw[hf,hc];rfl
   show List.lookup x ((if(NameKind.free==NameKind.free&&env.scope.kind==.function&&env.kindOf x==some .cell)=true then(x,NameKind.cell) else(x,NameKind.free))::_)=_;rw[if_pos hb,fE];simp only[beq_self_eq_true]
  |false=>
   rw[fE] at h;simp only[hx] at h;have ih:=jQ hf (names:=r) h hc
   by_cases hb:(k==NameKind.free&&env.scope.kind==.function&&env.kindOf n==some .cell)=true
   ·simp only[hb,if_true,fE,hx];exact ih
   ·have hb':(k==NameKind.free&&env.scope.kind==.function&&env.kindOf n==some .cell)=false:=by simpa using hb
    simp only[hb',aX,if_false,fE,hx];exact ih
theorem Inv.low(I:Inv X pins σ H s):∀b∈frs X.stack,b<s.heap.objs.size:=λb hb=>by obtain⟨_,o,ho,_⟩:=I.stack.mem hb;exact aS ho
theorem aGf{elt:Expr}{ifs:List Expr}{scope:Scope}{pos:Pos}{N:List Str}{cap:List (Option Nat)}{g:TG}{tt:TT}{te:TE}{J:It}{fp:List BJ}{it:BJ}{tn:Nat->BL->Prop}{E:BH->BI->Prop}{sc:Scope}(ξ:List (Str×BJ)->BJ->BH->BI->Prop)(ξ':List (Str×BJ)->BJ->BH->Hp->BI->Prop)
  (hc:X.calm=true) (hsc:X.env.scope=sc) (hcn:qE scope sc=true) (hcap:nV N X.N scope sc cap=true) (hk:scope.kind=.function)
  (I:Inv X pins σ H s) (T:aIi X.prog X.w X.K tg J fp it tn) (st:tn 0 s.heap) (hfp:∀b∈fp,yD X pins H b)
  (hg:∀cl C,PG (qP X N scope cl C fp s H<|ξ cl C) tg g) (ht:∀cl C pi s2 σ2 H2 Q,Inv (qP X N scope cl C fp s H<|ξ cl C) pi σ2 H2 s2->tt σ2 H2 Q->AI (AG X.prog X.w) X.A (forIn ifs true λc r=>if r=true then do let ok <-isTrue c (compEnvC scope cl C X.env) (eval c<|compEnvC scope cl C X.env);pure (ForInStep.yield ok) else pure (ForInStep.yield r)) (TP (qP X N scope cl C fp s H<|ξ cl C) pi σ2 Q) (ξ cl C) s2)
  (he:∀cl C,PE (qP X N scope cl C fp s H<|ξ cl C) elt te) (W:Nat->Nat->List V->St->Hp->Prop) (m0:Nat) (w0:W 0 m0 [] (yG cap σ) H)
  (RR:BH->BJ->Result->BI->Prop)
  (hξ:∀cl C e s',ξ cl C e s'->∃pi σb H',Inv (qP X N scope cl C fp s H<|ξ cl C) pi σb H' s'/\ξ' cl C e H' s')
  (hx:∀cl D C e H' s',ξ' cl C e H' s'->H' C=none->X.s₀.heap.objs.size<=C->C≠X.env.locals->(∀x c,X.env.cells.lookup x=some c->c≠C)->(∀p∈X.pn++pins,p.1≠C)->C∉frs X.stack->(∃m,s'.heap.Ns C m)->Inv X pins σ H' s'->notedBy (AG X.prog X.w) X.A (compEnvC scope cl C X.env) (λe s''=>RR (.ref D) C (.error e) s'') e s')
  (turn:∀i m ys σb H2,W i m ys σb H2→
   (J.stop i H2/\∀D C s',H2 D=none->H2 C=none->D≠C->X.s₀.heap.objs.size<=C->C≠X.env.locals->(∀x c,X.env.cells.lookup x=some c->c≠C)->(∀p∈X.pn++pins,p.1≠C)->C∉frs X.stack->(∃m,s'.heap.Ns C m)->Inv X pins σ (upd H2 D<|.lst ys) s'->RR (.ref D) C (.ok .next) s')\/
   (J.go i H2∧ys.length<AN∧∃Nx:List V→St→Hp→Prop,(∀ys' σ' H',Nx ys' σ' H'→∃m',m'<m∧W (i+1) m' ys' σ' H')∧
    ∀x H',J.yld i H2 x H'->g x σb H' λσ2 H3=>tt σ2 H3 λb H4=>if b=true then te σ2 H4 λv H5=>Nx (ys++[v]) σ2 H5 else Nx ys σ2 H4)):
  AI (AG X.prog X.w) X.A (newList []) (fun acc s₃=>AI (AG X.prog X.w) X.A (newFunctionEnv scope X.env.globals (clo X.env.cells scope.names []) [] X.env.qual none .none (some X.env)) (fun cenv s₄=>
   codeAny (AG X.prog X.w) X.A (.compStart (.ListComp elt [⟨tg,iter,ifs,0⟩] scope pos) 0 (.ref it) acc {cenv with scope:=relabel scope X.env}) (RR acc cenv.locals) s₄) E s₃) E s:=by
 have nm:∀y∈scope.names,(y.2=NameKind.free->sc.names.lookup y.1=some NameKind.cell)/\y.2≠NameKind.cell/\(y.2=NameKind.local->scope.names.lookup y.1=some NameKind.local):=λy hy=>by have q:=bZ.mp hcn y hy;simp only[bC,qD,oP,beq_eq_false_iff_ne,ne_eq,beq_iff_eq] at q;exact⟨λe=>q.1.1.resolve_left λz=>z e,q.1.2,λe=>q.2.resolve_left λz=>z e⟩
 have fre:∀y∈scope.names,y.2=.free->∃c,X.env.cells.lookup y.1=some c:=λy hy e=>I.ok.has y.1 (.inl<|by show X.env.scope.names.lookup y.1=_;rw[hsc];exact(nm y hy).1 e)
 generalize hcl:clo X.env.cells scope.names []=cl
 have csub:∀x c,cl.lookup x=some c->X.env.cells.lookup x=some c:=λx c e=>by
  rw[<-hcl] at e
  rcases aCs _ _ _ _ _ e with z|⟨z1,z2⟩
  ·simp at z
  ·obtain⟨c',q⟩:=fre _ z1 rfl;rw[q] at z2;rw[q,z2];rfl
 have chas:∀x,((relabel scope X.env).names.lookup x=some .cell\/(relabel scope X.env).names.lookup x=some .free)->∃c,cl.lookup x=some c:=λx e=>by
  rcases sM e with z|z
  ·exact absurd rfl (nm _<|PySem.mem_of_lookup z).2.1
  ·rw[<-hcl];exact aEG _ _ _ _ (.inl<|PySem.mem_of_lookup z)
 have cexi:∀x c,cl.lookup x=some c->c<s.heap.objs.size:=λx c e=>by obtain⟨v,o,ho,_⟩:=I.cell x c<|csub x c e;exact aS ho
 have cexX:∀x c,X.env.cells.lookup x=some c->c<s.heap.objs.size:=λx c e=>by obtain⟨v,o,ho,_⟩:=I.cell x c e;exact aS ho
 have pexX:∀p∈X.pn++pins,p.1<s.heap.objs.size:=λp hp=>aS (I.pin p hp).1
 have flow:∀b∈fp,b<s.heap.objs.size:=λb hb=>by obtain⟨o,ho,_⟩:=T.obj 0 _ st b hb;exact aS ho
 have fstk:∀b∈fp,b∉frs X.stack:=λb hb z=>by
  obtain⟨_,f1,f2,_⟩:=hfp b hb
  rcases aW.mp (I.stkSub b z) with q|q
  ·exact f1 q
  ·exact f2 q
 have hkr:(relabel scope X.env).kind=.function:=hk;refine AR<|wpAny_newFunctionEnv (λy hy=>(nm y hy).2.1) (by intro y hy;simp at hy) (λh₁ hns₁ hsb₁=> ?_) hk;dsimp only at hns₁ hsb₁ ⊢;generalize hH2:s.heap.push {cls:=.type "list",dict:=none,data:=.seq ([]:List BH).toArray}=G2 at hns₁ hsb₁ ⊢;have hC:G2.objs.size=s.heap.objs.size+1:=by rw[<-hH2,aAG]
 have hDC:s.heap.objs.size≠G2.objs.size:=by rw[hC];exact bS<|jW _
 have hCle:s.heap.objs.size<=G2.objs.size:=by rw[hC];exact lB _
 have neC:∀b,b<s.heap.objs.size->b≠G2.objs.size:=λb hb=>by rw[hC];exact bS<|oS hb
 have old:∀b o,s.heap.get? b=some o->h₁.get? b=some o:=λb o e=>hsb₁.extBut b o (neC b<|aS e) (aD _<|hH2▸aD _ e)
 have hacc:h₁.get? s.heap.objs.size=some {cls:=.type "list",dict:=none,data:=.seq ([]:List BH).toArray}:=hsb₁.extBut _ _ hDC (aD _<|hH2▸bG _ rfl);have env_eq:({newEnv scope G2.objs.size X.env.globals cl X.env.qual none .none (some X.env) 0 with scope:=relabel scope X.env}:Env)=compEnvC scope cl G2.objs.size X.env:=rfl;generalize hDD:s.heap.objs.size=D at *;generalize hCC:G2.objs.size=C at *
 have okX:(qP X N scope cl C fp s H<|ξ cl C).Ok:=by
  refine⟨I.mod,hkr,I.ok.glob,I.ok.blt, ?_,λx y c a b=>I.ok.inj x y c (csub x c a)<|csub y c b,chas,(λx c z=>nomatch z),λ_=>I.ok.hd hc,I.ok.frames,.inl rfl,λb hb=>⟨neC b<|flow b hb,λx c e=>(hfp b hb).2.2.2.2.1 x c<|csub x c e⟩,I.bs, ?_,λb o e hb=> ?_,fstk,I.stack,I.stkFree⟩
  ·show s.heap.objs.size<=C;rw[hDD];exact hCle
  ·exact cJ I.ok.bsz I.sz
  ·rcases(hfp b hb).2.2.2.1 with z|z
   ·exact I.ok.noex b o e z
   ·exact absurd (bE (aS e)<|cJ I.ok.bsz z)<|dU _
 have capE:∀ (i:Nat) (x:Str) (v:V),N[i]? =some x->(yG cap σ)[i]? =some (some v)->∃k:Nat,X.N[k]? =some x/\σ[k]? =some (some v)/\sc.names.lookup x=some .cell/\scope.names.lookup x=some .free:=λi x v e1 e2=>by
  unfold nV at hcap;rw[bC] at hcap;unfold yG at e2;rw[bA] at e2;cases q:cap[i]? with
  |none=>rw[q] at e2;cases e2
  |some o=>
   rw[q] at e2;have e2:(o.bind λk=>(σ[k]?).join)=some v:=cA.inj e2;cases o with
   |none=>cases e2
   |some k=>
    have e2:(σ[k]?).join=some v:=e2
    have mz:(some k,x)∈cap.zip N:=by refine bD (i:=i) ?_;rw[nM];exact⟨q,e1⟩
    have z:=bZ.mp hcap.2 _ mz;simp only[bC,beq_iff_eq] at z;refine⟨k,z.1.1, ?_,z.1.2,z.2⟩;cases w:σ[k]? with
    |none=>rw[w] at e2;cases e2
    |some o'=>rw[w] at e2;have e2:o'=some v:=e2;rw[e2]
 have I0:Inv (qP X N scope cl C fp s H<|ξ cl C) [(D,{cls:=.type "list",dict:=none,data:=.seq ([]:List BH).toArray})] (yG cap σ) H {s with heap:=h₁,toks:=s.toks+([]:List (Str×BH)).length}:=by
  have dfree:H D=none:=I.hok.fresh<|aGm hDD;refine⟨okX,rfl,I.bare,Un.kept old,⟨_,hns₁,λi x v e1 e2 e3=> ?_⟩,λx c e=> ?_,I.hok.fresh (by rw[hDD];exact hCle),λx c e=>I.freeC x c<|csub x c e,λp hp=> ?_,I.hok.kept old, ?_⟩
  ·obtain⟨k,q1,q2,q3,q4⟩:=capE i x v e1 e2;have q3':X.env.scope.names.lookup x=some .cell:=by rw[hsc];exact q3
   obtain⟨m,_,hl⟩:=I.loc;obtain⟨u,ru,lk⟩:=hl k x v q1 q2 (.inr<|.inl q3');refine⟨u,ru,.inr ⟨.inl<|jQ I.ok.kind q4 q3', ?_⟩⟩
   rcases lk with⟨z,_⟩|⟨_,c,z,ic⟩
   ·have z':X.env.scope.names.lookup x=some .local:=z;rw[q3'] at z';cases z'
   ·obtain⟨c',hc'⟩:=chas x (.inl<|jQ I.ok.kind q4 q3');have:=csub x c' hc';rw[z] at this;have ec:c=c':=cA.inj this;subst ec;obtain⟨o,ho,hd⟩:=ic;exact⟨c,hc',o,old c o ho,hd⟩
  ·obtain⟨v,o,ho,hd⟩:=I.cell x c<|csub x c e;exact⟨v,o,old c o ho,hd⟩
  ·have hp':p=(D,{cls:=.type "list",dict:=none,data:=.seq ([]:List BH).toArray}):=by simpa[qP,cxB] using hp
   subst hp';refine⟨hacc,dfree,hDC,λz=> ?_,λv z=>by cases z⟩;have:=I.low D z;rw[hDD] at this;exact dU _ this
  ·show(yG cap σ).length=N.length;unfold nV at hcap;rw[bC] at hcap;unfold yG;rw[aA];simpa using hcap.1
 have dlow:∀b,b<D->b≠D:=λb hb=>bS hb
 have loop:∀s₃:BI,s₃={s with heap:=h₁,toks:=s.toks+([]:List (Str×BH)).length}->
   codeAny (AG X.prog X.w) X.A (.compLoop (.ListComp elt [⟨tg,iter,ifs,0⟩] scope pos) 0 (.ref it) (.ref D)<|compEnvC scope cl C X.env) (RR (.ref D) C) s₃:=by
  rintro s₃ rfl
  refine aFe (ξ cl C) (λe s' z=> ?_) (λn s'=>∃ (i:Nat) (ys:List V) (σb:St) (H2:Hp) (its:List BH) (nn:Nat),Inv (qP X N scope cl C fp s H<|ξ cl C) [(D,{cls:=.type "list",dict:=none,data:=.seq its.toArray nn})] σb H2 s'/\tn i s'.heap/\(∀b∈fp,H2 b=none)/\Vals ys its/\ys.length<=AN/\W i n ys σb H2) ?_ m0
   ⟨0,[],yG cap σ,H,[],0,I0,T.keep 0 _ _ st λb hb o e=>old b o e,λb hb=>(hfp b hb).1,.nil,bW _,w0⟩
  ·obtain⟨pi,σb,H',I',z'⟩:=hξ cl C e s' z;obtain⟨m4,ns4,_⟩:=id I'.loc;have J0:Inv X pins σ H' s':=I.call' (ch:=fp) I'.os I'.base I'.hok I'.bare λb hb=>⟨(hfp b hb).2.2.2.1,(hfp b hb).2.1,(hfp b hb).2.2.2.2.1,(hfp b hb).2.2.2.2.2⟩
   have hLD:X.env.locals<D:=by rw[<-hDD];exact I.lt
   exact hx cl D C e H' s' z' I'.free (cJ I.sz<|by rw[hDD];exact hCle) (lK<|bE hLD hCle) (λx c e=>neC c<|cexX x c e) (λp hp=>neC _<|pexX p hp) (λz=>absurd (I.low C z)<|by rw[hDD];exact aCz.mpr hCle) ⟨m4,ns4⟩ J0
  rintro n s3 ⟨i,ys,σ3,H3,its,nn,I3,st3,fr3,rv3,hlen,w3⟩
  have fpX:∀ {H':Hp}{its':List BH}{nn':Nat},(∀b∈fp,H' b=none)->∀b∈fp,yD (qP X N scope cl C fp s H<|ξ cl C) [(D,{cls:=.type "list",dict:=none,data:=.seq its'.toArray nn'})] H' b:=λ{H' its' nn'} hn b hb=>by
   refine⟨hn b hb,neC b<|flow b hb,fstk b hb,.inl hb,λx c e=>(hfp b hb).2.2.2.2.1 x c<|csub x c e,λp hp=> ?_⟩
   have hp':p.1=D:=by have q:p∈([]:List (BJ×BM))++[(D,{cls:=.type "list",dict:=none,data:=.seq its'.toArray nn'})]:=hp;rw[yZ,aN] at q;rw[q]
   rw[hp'];exact Ne.symm (dlow b<|flow b hb)
  rcases turn i n ys σ3 H3 w3 with⟨stop,fin⟩|⟨go,hsz,Nx,hN,step⟩
  ·refine thn (T.done (qP X N scope cl C fp s H<|ξ cl C) rfl rfl rfl rfl i _ s3 σ3 H3 (ξ cl C) I3 (fpX fr3) st3 stop) λr s4 ⟨hr,I4⟩=> ?_
   subst hr;obtain⟨m4,ns4,_⟩:=id I4.loc;have J0:Inv X pins σ H3 s4:=I.call' (ch:=fp) I4.os I4.base I4.hok I4.bare λb hb=>⟨(hfp b hb).2.2.2.1,(hfp b hb).2.1,(hfp b hb).2.2.2.2.1,(hfp b hb).2.2.2.2.2⟩
   obtain⟨pd,pn,_⟩:=I4.pin (D,_)<|aM _ aH;have hLD:X.env.locals<D:=by rw[<-hDD];exact I.lt
   refine fin D C s4 pn I4.free hDC (cJ I.sz<|by rw[hDD];exact hCle) (lK<|bE hLD hCle) (λx c e=>neC c<|cexX x c e) (λp hp=>neC _<|pexX p hp) (λz=>absurd (I.low C z)<|by rw[hDD];exact aCz.mpr hCle) ⟨m4,ns4⟩ ?_;refine J0.track pn (by rw[<-hDD];exact I.sz) (lK hLD) (λx c e=>dlow c<|cexX x c e) (λp hp=>dlow _<|pexX p hp) ?_;exact⟨hlen,its,nn,rv3,pd⟩
  ·refine thn (T.item (qP X N scope cl C fp s H<|ξ cl C) rfl rfl rfl rfl i _ s3 σ3 H3 (ξ cl C) I3 (fpX fr3) st3 go) λr s4 ⟨u,hr,h4⟩=> ?_
   subst hr;refine thn h4 λ_ s5 ⟨x,H5,I5,r5,y5,st5,fr5⟩=> ?_
   have I5':=I5.pinned (fpX fr5)<|T.obj _ _ st5;refine thn (hg cl C _ s5 σ3 H5 x u _ I5' r5<|step x H5 y5) λ_ s6 ⟨σ6,H6,I6,q6⟩=> ?_
   refine thn (ht cl C _ s6 σ6 H6 _ I6 q6) λb s7 ⟨H7,I7,q7⟩=> ?_
   have tnK:∀ {σ7:St}{H7:Hp}{s7:BI},Inv (qP X N scope cl C fp s H<|ξ cl C) ([(D,{cls:=.type "list",dict:=none,data:=.seq its.toArray nn})]++oV fp s5.heap) σ7 H7 s7->tn (i+1) s7.heap/\∀b∈fp,H7 b=none:=λ{σ7 H7 s7} I7=>by refine⟨T.keep _ _ _ st5 λb hb o e=>(I7.pin (b,o)<|aM _ (aM _<|kC hb e)).1,λb hb=> ?_⟩;obtain⟨o,e,d⟩:=T.obj _ _ st5 b hb;exact(I7.pin (b,o)<|aM _ (aM _<|kC hb e)).2.1
   cases b with
   |false=>have q7':Nx ys σ6 H7:=q7;obtain⟨m',hm,w7⟩:=hN _ _ _ q7';obtain⟨t7,f7⟩:=tnK I7;exact⟨m',hm,i+1,ys,σ6,H7,its,nn,I7.unpinned,t7,f7,rv3,hlen,w7⟩
   |true=>
    have q7':te σ6 H7 λv H5=>Nx (ys++[v]) σ6 H5:=q7
    refine thn (he cl C _ s7 σ6 H7 _ I7 q7') λy s8 ⟨v,H8,I8,r8,q8⟩=> ?_
    obtain⟨m',hm,w8⟩:=hN _ _ _ q8;obtain⟨pd,pn,pL,pf,pc⟩:=I8.pin (D,{cls:=.type "list",dict:=none,data:=.seq its.toArray nn}) (aM _<|bN _ aH);have hits:its.length=ys.length:=rv3.length.symm;refine wpAny_list_append_plain (items:=its.toArray) ⟨nn,pd⟩ (λh9 pl9 sb9=> ?_) (by rw[aV,hits];exact dG hsz);obtain⟨n9,e9⟩:=pl9
    have e9':h9.get? D=some {cls:=.type "list",dict:=none,data:=.seq (its++[y]).toArray n9}:=by rw[e9];simp
    have I8':Inv (qP X N scope cl C fp s H<|ξ cl C) (oV fp s5.heap) σ6 H8 s8:=I8.pins_of λp hp=>I8.pin p (aM _<|aM _ hp)
    have I9:Inv (qP X N scope cl C fp s H<|ξ cl C) (oV fp s5.heap) σ6 H8 {s8 with heap:=h9,toks:=s8.toks}:=I8'.turned (it:=D) (λb o hb e=>sb9.extBut b o hb e) pn hDC (.inr<|by rw[<-hDD];exact aP _) (λx c e=>dlow c<|cexi x c e) λp hp=>by
     have hp':p∈oV fp s5.heap:=by simpa[qP,cxB] using hp
     exact dlow _<|flow _ (tY hp').1
    have tn9:tn (i+1) h9:=T.keep _ _ _ st5 λb hb o e=>(I9.pin (b,o) (aM _<|kC hb e)).1
    have fr9:∀b∈fp,H8 b=none:=λb hb=>by obtain⟨o,e,d⟩:=T.obj _ _ st5 b hb;exact(I9.pin (b,o) (aM _<|kC hb e)).2.1
    refine⟨m',hm,i+1,ys++[v],σ6,H8,its++[y],n9,I9.pins_of λp hp=> ?_,tn9,fr9,Vals.append rv3<|.cons r8 .nil,by rw[aQ];exact hsz,w8⟩;have hp':p=(D,{cls:=.type "list",dict:=none,data:=.seq (its++[y]).toArray n9}):=aN.mp hp;subst hp';exact⟨e9',pn,pL,pf,λv z=>by cases z⟩
 exact codeAny_compStart_list (loop _ rfl) (T.self _ 0 _ _ _ (T.keep 0 _ _ st λb hb o e=>old b o e)<|loop _ rfl)
theorem aBX{elt:Expr}{ifs:List Expr}{scope:Scope}{pos:Pos}{N:List Str}{cap:List (Option Nat)}{g:TG}{tt:TT}{te:TE}{J:It}{fp:List BJ}{it:BJ}{tn:Nat->BL->Prop}{E:BH->BI->Prop}{sc:Scope}
  (hc:X.calm=true) (hsc:X.env.scope=sc) (hcn:qE scope sc=true) (hcap:nV N X.N scope sc cap=true) (hk:scope.kind=.function)
  (I:Inv X pins σ H s) (T:aIi X.prog X.w X.K tg J fp it tn) (st:tn 0 s.heap) (hfp:∀b∈fp,yD X pins H b)
  (hg:∀cl C,PG (cxB X N scope cl C fp s H) tg g) (ht:∀cl C pi s2 σ2 H2 Q,Inv (cxB X N scope cl C fp s H) pi σ2 H2 s2->tt σ2 H2 Q->AI (AG X.prog X.w) X.A (forIn ifs true λc r=>if r=true then do let ok <-isTrue c (compEnvC scope cl C X.env) (eval c<|compEnvC scope cl C X.env);pure (ForInStep.yield ok) else pure (ForInStep.yield r)) (TP (cxB X N scope cl C fp s H) pi σ2 Q) (λ_ _=>False) s2)
  (he:∀cl C,PE (cxB X N scope cl C fp s H) elt te) (W:Nat->Nat->List V->St->Hp->Prop) (m0:Nat) (w0:W 0 m0 [] (yG cap σ) H)
  (RR:BH->BJ->Result->BI->Prop)
  (turn:∀i m ys σb H2,W i m ys σb H2→
   (J.stop i H2/\∀D C s',H2 D=none->H2 C=none->D≠C->X.s₀.heap.objs.size<=C->C≠X.env.locals->(∀x c,X.env.cells.lookup x=some c->c≠C)->(∀p∈X.pn++pins,p.1≠C)->C∉frs X.stack->(∃m,s'.heap.Ns C m)->Inv X pins σ (upd H2 D<|.lst ys) s'->RR (.ref D) C (.ok .next) s')\/
   (J.go i H2∧ys.length<AN∧∃Nx:List V→St→Hp→Prop,(∀ys' σ' H',Nx ys' σ' H'→∃m',m'<m∧W (i+1) m' ys' σ' H')∧
    ∀x H',J.yld i H2 x H'->g x σb H' λσ2 H3=>tt σ2 H3 λb H4=>if b=true then te σ2 H4 λv H5=>Nx (ys++[v]) σ2 H5 else Nx ys σ2 H4)):
  AI (AG X.prog X.w) X.A (newList []) (fun acc s₃=>AI (AG X.prog X.w) X.A (newFunctionEnv scope X.env.globals (clo X.env.cells scope.names []) [] X.env.qual none .none (some X.env)) (fun cenv s₄=>
   codeAny (AG X.prog X.w) X.A (.compStart (.ListComp elt [⟨tg,iter,ifs,0⟩] scope pos) 0 (.ref it) acc {cenv with scope:=relabel scope X.env}) (RR acc cenv.locals) s₄) E s₃) E s:=
 aGf (λ_ _ _ _=>False) (λ_ _ _ _ _=>False) hc hsc hcn hcap hk I T st hfp hg ht he W m0 w0 RR (λ_ _ _ _ z=>z.elim) (λ_ _ _ _ _ _ z=>z.elim) turn
end L2
namespace DL
open PySem PySem.Spec PyProof.Rows L2
noncomputable abbrev St:=L2.St
inductive D where
 |non|bl (b:Bool)|int (i:Int)|str (x:Str)|tup (ds:List D)|lst (ds:List D)|dic|scr (ns:List Int)|dki (ks:List Key) (ds:List D)|any (G:V->Hp->Prop)
mutual
noncomputable def Rep(K:aB)(H:Hp):D->V->Prop
 |.non,v=>v=.non
 |.bl b,v=>v=.bl b
 |.int i,v=>v=.int i
 |.str x,v=>v=.str x
 |.tup ds,v=>∃a xs,v=.ref a/\H a=some (.tup xs)/\RepL K H ds xs
 |.lst ds,v=>∃a xs,v=.ref a/\H a=some (.lst xs)/\RepL K H ds xs
 |.dic,v=>∃a,v=.ref a/\H a=some (.dK [])
 |.dki ks ds,v=>∃a xs,v=.ref a/\(∃ob,H a=some (.frz ob (.dK<|ks.zip xs)))/\ks.length=ds.length/\RepL K H ds xs
 |.scr ns,v=>∃a,v=.ref a/\SqL K H a (ns.map V.int)
 |.any G,v=>(∃a,v=.ref a)/\∀H',Same H H'->G v H'
noncomputable def RepL(K:aB)(H:Hp):List D->List V->Prop
 |[],xs=>xs=[]
 |d::ds,xs=>∃y ys,xs=y::ys/\Rep K H d y/\RepL K H ds ys
end
mutual
theorem Rep.mono{K:aB}{H H':Hp}(h:Same H H'):∀ {d:D}{v:V},Rep K H d v->Rep K H' d v
 |.non,_,r=>by simpa only[Rep] using r
 |.bl _,_,r=>by simpa only[Rep] using r
 |.int _,_,r=>by simpa only[Rep] using r
 |.str _,_,r=>by simpa only[Rep] using r
 |.tup ds,v,r=>by simp only[Rep] at r ⊢;obtain⟨a,xs,e,q,rl⟩:=r;exact⟨a,xs,e,h _ _ q,RepL.mono h rl⟩
 |.lst ds,v,r=>by simp only[Rep] at r ⊢;obtain⟨a,xs,e,q,rl⟩:=r;exact⟨a,xs,e,h _ _ q,RepL.mono h rl⟩
 |.dki ks ds,v,r=>by simp only[Rep] at r ⊢;obtain⟨a,xs,e,⟨ob,q⟩,l,rl⟩:=r;exact⟨a,xs,e,⟨ob,h _ _ q⟩,l,RepL.mono h rl⟩
 |.dic,v,r=>by simp only[Rep] at r ⊢;obtain⟨a,e,q⟩:=r;exact⟨a,e,h _ _ q⟩
 |.any G,v,r=>by simp only[Rep] at r ⊢;exact⟨r.1,λH2 s=>r.2 H2<|h.trans s⟩
 |.scr ns,v,r=>by simp only[Rep] at r ⊢;obtain⟨a,e,q⟩:=r;exact⟨a,e,h.seq q⟩
theorem RepL.mono{K:aB}{H H':Hp}(h:Same H H'):∀ {ds:List D}{xs:List V},RepL K H ds xs->RepL K H' ds xs
 |[],_,r=>by simpa only[RepL] using r
 |d::ds,xs,r=>by simp only[RepL] at r ⊢;obtain⟨y,ys,e,q,rl⟩:=r;exact⟨y,ys,e,Rep.mono h q,RepL.mono h rl⟩
end
theorem RepL.len{K:aB}{H:Hp}:∀ {ds:List D}{xs:List V},RepL K H ds xs->xs.length=ds.length
 |[],_,r=>by simp only[RepL] at r;rw[r];rfl
 |d::ds,xs,r=>by simp only[RepL] at r;obtain⟨y,ys,rfl,_,q⟩:=r;simp only[bU,RepL.len q]
theorem RepL.get{K:aB}{H:Hp}:∀ {ds:List D}{xs:List V}{i:Nat}{d:D},RepL K H ds xs->ds[i]? =some d->∃v,xs[i]? =some v/\Rep K H d v
 |[],_,i,d,r,e=>by simp at e
 |d'::ds,xs,i,d,r,e=>by
  simp only[RepL] at r;obtain⟨y,ys,rfl,q,rl⟩:=r;cases i with
  |zero=>simp at e;subst e;exact⟨y,rfl,q⟩
  |succ i=>
   have e':ds[i]? =some d:=by simpa using e
   obtain⟨v,h1,h2⟩:=RepL.get rl e';exact⟨v,by simpa using h1,h2⟩
theorem RepL.app{K:aB}{H:Hp}:∀ {ds es:List D}{xs ys:List V},RepL K H ds xs->RepL K H es ys->RepL K H (ds++es) (xs++ys)
 |[],es,xs,ys,r,q=>by simp only[RepL] at r;subst r;exact q
 |d::ds,es,xs,ys,r,q=>by simp only[RepL] at r;obtain⟨y,zs,rfl,a,rl⟩:=r;show RepL K H (d::(ds++es)) (y::(zs++ys));simp only[RepL];exact⟨y,_,rfl,a,RepL.app rl q⟩
theorem RepL.nil{K:aB}{H:Hp}:RepL K H [] []:=by simp only[RepL]
theorem RepL.cons{K:aB}{H:Hp}{d:D}{ds:List D}{x:V}{xs:List V}(a:Rep K H d x)(b:RepL K H ds xs):RepL K H (d::ds) (x::xs):=by simp only[RepL];exact⟨x,xs,rfl,a,b⟩
theorem RepL.one{K:aB}{H:Hp}{d:D}{x:V}(a:Rep K H d x):RepL K H [d] [x]:=.cons a .nil
theorem RepL.uncons{K:aB}{H:Hp}{d:D}{ds:List D}{xs:List V}(r:RepL K H (d::ds) xs):∃y ys,xs=y::ys/\Rep K H d y/\RepL K H ds ys:=by simpa only[RepL] using r
theorem RepL.take{K:aB}{H:Hp}:∀ {ds:List D}{xs:List V} (n:Nat),RepL K H ds xs->RepL K H (ds.take n) (xs.take n)
 |_,_,0,_=>by simp only[aOl];exact .nil
 |[],xs,n+1,r=>by simp only[RepL] at r;subst r;exact .nil
 |d::ds,xs,n+1,r=>by obtain⟨y,ys,rfl,a,rl⟩:=r.uncons;simp only[aGs];exact .cons a<|RepL.take n rl
theorem RepL.drop{K:aB}{H:Hp}:∀ {ds:List D}{xs:List V} (n:Nat),RepL K H ds xs->RepL K H (ds.drop n) (xs.drop n)
 |_,_,0,r=>by simpa only[List.drop_zero] using r
 |[],xs,n+1,r=>by simp only[RepL] at r;subst r;exact .nil
 |d::ds,xs,n+1,r=>by obtain⟨y,ys,rfl,a,rl⟩:=r.uncons;simp only[List.drop_succ_cons];exact RepL.drop n rl
theorem RepL.ints{K:aB}{H:Hp}:∀ {ns:List Int}{xs:List V},RepL K H (ns.map D.int) xs->xs=ns.map V.int
 |[],xs,r=>by simpa only[fD,RepL] using r
 |n::ns,xs,r=>by rw[aZ] at r;obtain⟨y,ys,rfl,a,rl⟩:=r.uncons;simp only[Rep] at a;rw[a,RepL.ints rl];rfl
inductive Slot where
 |un|val (d:D)|own (l:BJ) (ds:List D)|gh (d:D) (G:V->Hp->Prop)|od (l:BJ) (ks:List Key) (ds:List D)|ox (ls:List BJ) (G:V->Hp->Hp->Prop)
noncomputable def Wr(l:BJ):HO->Prop
 |.lst _=>True
 |.dK _=>True
 |.ext φ=>∃o:BM,φ=(λh=>h.get? l=some o)/\∀v,o.data≠ .cell v
 |_=>False
noncomputable def jB(K:aB)(F H:Hp):Slot->Option V->Prop
 |.un,_=>True
 |.val d,o=>∃v,o=some v/\Rep K F d v
 |.own l ds,o=>o=some (.ref l)/\F l=none/\∃xs,H l=some (.lst xs)/\RepL K F ds xs
 |.od l ks ds,o=>o=some (.ref l)/\F l=none/\∃xs,H l=some (.dK<|ks.zip xs)/\ks.length=ds.length/\RepL K F ds xs
 |.gh d G,o=>∃v,o=some v/\Rep K F d v/\∀F',Same F F'->G v F'
 |.ox ls G,o=>∃v,o=some v/\(∀l∈ls,F l=none/\∃ob,H l=some ob/\Wr l ob)/\∀F' H',Same F F'->(∀l∈ls,∀ob,H l=some ob->H' l=some ob)->G v F' H'
noncomputable def SlotsOk(K:aB)(F H:Hp):List Slot->St->Prop
 |[],σ=>σ=[]
 |z::zs,σ=>∃o r,σ=o::r/\jB K F H z o/\SlotsOk K F H zs r
noncomputable def iR:Slot->List BJ
 |.own l _=>[l]
 |.od l _ _=>[l]
 |.ox ls _=>ls
 |_=>[]
noncomputable def cQ(sd:List Slot):List BJ:=sd.flatMap iR
theorem rL(z:Slot)(zs:List Slot):cQ (z::zs)=iR z++cQ zs:=rfl
structure StF(K:aB)(H₀ F H:Hp)(σ:St)(sd:List Slot):Prop where
 base:Same H₀ F
 sub:Same F H
 smp:Smp H
 slots:SlotsOk K F H sd σ
 nd:(cQ sd).Nodup
variable {K:aB}{H₀ F F' H H':Hp}{σ:St}{sd:List Slot}
theorem SlotsOk.get:∀ {sd:List Slot}{σ:St}{i:Nat}{z:Slot},SlotsOk K F H sd σ->sd[i]? =some z->∃o,σ[i]? =some o/\jB K F H z o
 |[],_,_,_,_,e=>by simp at e
 |z'::zs,σ,i,z,h,e=>by
  obtain⟨o,r,rfl,a,b⟩:=h;cases i with
  |zero=>simp at e;subst e;exact⟨o,rfl,a⟩
  |succ i=>obtain⟨o',h1,h2⟩:=SlotsOk.get (i:=i) b (by simpa using e);exact⟨o',by simpa using h1,h2⟩
theorem SlotsOk.set{z:Slot}{o:Option V}(q:jB K F H z o):∀ {sd:List Slot}{σ:St} (i:Nat),SlotsOk K F H sd σ->SlotsOk K F H (sd.set i z) (σ.set i o)
 |[],_,_,h=>by have h:_=_:=h;subst h;rfl
 |z'::zs,σ,i,h=>by
  obtain⟨o',r,rfl,a,b⟩:=h;cases i with
  |zero=>exact⟨o,r,rfl,q,b⟩
  |succ i=>exact⟨o',_,rfl,a,SlotsOk.set q i b⟩
theorem SlotsOk.mono(hF:Same F F'):∀ {sd:List Slot}{σ:St},(∀l∈cQ sd,F' l=none/\∀xs,H l=some xs->H' l=some xs)->SlotsOk K F H sd σ->SlotsOk K F' H' sd σ
 |[],_,_,h=>h
 |z::zs,σ,ho,h=>by
  obtain⟨o,r,rfl,a,b⟩:=h;refine⟨o,r,rfl, ?_,SlotsOk.mono hF (λl hl=>ho l ?_) b⟩
  ·cases z with
   |un=>trivial
   |val d=>obtain⟨v,e,q⟩:=a;exact⟨v,e,q.mono hF⟩
   |gh d G=>obtain⟨v,e,q,g⟩:=a;exact⟨v,e,q.mono hF,λF2 s2=>g F2<|hF.trans s2⟩
   |own l ds=>obtain⟨e,n,xs,q,rl⟩:=a;have:=ho l (by simp[rL,iR]);exact⟨e,this.1,xs,this.2 _ q,rl.mono hF⟩
   |od l ks ds=>obtain⟨e,n,xs,q,ln,rl⟩:=a;have:=ho l (by simp[rL,iR]);exact⟨e,this.1,xs,this.2 _ q,ln,rl.mono hF⟩
   |ox ls G=>
    obtain⟨v,e,h,g⟩:=a;have ho':∀l∈ls,F' l=none/\∀xs,H l=some xs->H' l=some xs:=λl hl=>ho l<|bN _ hl
    exact⟨v,e,λl hl=>⟨(ho' l hl).1,let ⟨ob,q,w⟩:=(h l hl).2;⟨ob,(ho' l hl).2 _ q,w⟩⟩,λF2 H2 s2 k=>g F2 H2 (hF.trans s2) λl hl ob q=>k l hl ob<|(ho' l hl).2 _ q⟩
  ·exact aM _ hl
theorem SlotsOk.owns:∀ {sd:List Slot}{σ:St}{l:BJ},SlotsOk K F H sd σ->l∈cQ sd->F l=none/\∃ob,H l=some ob/\Wr l ob
 |[],_,_,_,e=>by simp[cQ] at e
 |z::zs,σ,l,h,e=>by
  obtain⟨o,r,rfl,a,b⟩:=h
  rcases aU.mp (show l∈iR z++cQ zs from e) with e|e
  ·cases z with
   |un=>cases e
   |val d=>cases e
   |gh d G=>cases e
   |own l' ds=>rw[aN.mp e];obtain⟨_,n,xs,q,_⟩:=a;exact⟨n,_,q,trivial⟩
   |od l' ks ds=>rw[aN.mp e];obtain⟨_,n,xs,q,_⟩:=a;exact⟨n,_,q,trivial⟩
   |ox ls G=>obtain⟨v,_,h,_⟩:=a;exact h l e
  ·exact SlotsOk.owns b e
theorem StF.lay{p:BJ}{o:HO}(S:StF K H₀ F H σ sd)(hp:H p=none)(ho:aOX o):StF K H₀ (upd F p o) (upd H p o) σ sd/\Same F (upd F p o):=by
 have fp:F p=none:=S.sub.free hp;have s1:Same F (upd F p o):=λb u e=>by rw[bV<|cS e fp];exact e
 refine⟨⟨λb u e=>s1 _ _<|S.base _ _ e,λb u e=> ?_,λb u e=> ?_,S.slots.mono s1 λl hl=> ?_,S.nd⟩,s1⟩
 ·by_cases h:b=p
  ·subst h;rw[cG] at e ⊢;exact e
  ·rw[bV h] at e ⊢;exact S.sub _ _ e
 ·by_cases h:b=p
  ·subst h;rw[cG] at e;cases e;exact ho
  ·rw[bV h] at e;exact S.smp _ _ e
 ·obtain⟨n,xs,q,_⟩:=S.slots.owns hl;have hne:l≠p:=cS q hp;exact⟨by rw[bV hne];exact n,λys e=>by rw[bV hne];exact e⟩
theorem StF.layO{p:BJ}{xs:List V}(S:StF K H₀ F H σ sd)(hp:H p=none):StF K H₀ F (upd H p<|.lst xs) σ sd/\F p=none/\p∉cQ sd:=by
 have fp:F p=none:=S.sub.free hp;refine⟨⟨S.base,λb u e=> ?_,λb u e=> ?_,S.slots.mono (Same.refl _) λl hl=> ?_,S.nd⟩,fp,λhl=> ?_⟩
 ·rw[bV<|cS e fp];exact S.sub _ _ e
 ·by_cases h:b=p
  ·subst h;rw[cG] at e;cases e;trivial
  ·rw[bV h] at e;exact S.smp _ _ e
 ·obtain⟨n,ys,q,_⟩:=S.slots.owns hl;have hne:l≠p:=cS q hp;exact⟨n,λys e=>by rw[bV hne];exact e⟩
 ·obtain⟨n,ys,q,_⟩:=S.slots.owns hl;rw[hp] at q;cases q
theorem StF.freeze{p:BJ}{xs:List V}(S:StF K H₀ F H σ sd)(hp:H p=some (.lst xs))(fp:F p=none)(ho:p∉cQ sd):StF K H₀ (upd F p<|.lst xs) H σ sd/\Same F (upd F p<|.lst xs):=by
 have s1:Same F (upd F p<|.lst xs):=λb u e=>by rw[bV<|cS e fp];exact e
 refine⟨⟨λb u e=>s1 _ _<|S.base _ _ e,λb u e=> ?_,S.smp,S.slots.mono s1 λl hl=> ?_,S.nd⟩,s1⟩
 ·by_cases h:b=p
  ·subst h;rw[cG] at e;rw[hp];exact e
  ·rw[bV h] at e;exact S.sub _ _ e
 ·obtain⟨n,ys,q,_⟩:=S.slots.owns hl;have hne:l≠p:=λz=>ho (z▸hl)
  exact⟨by rw[bV hne];exact n,λys e=>e⟩
theorem SlotsOk.len:∀ {sd:List Slot}{σ:St},SlotsOk K F H sd σ->σ.length=sd.length
 |[],_,h=>by have h:_=_:=h;rw[h];rfl
 |z::zs,σ,h=>by obtain⟨o,r,rfl,_,b⟩:=h;simp[SlotsOk.len b]
inductive R where
 |val (d:D)|own (ds:List D)|bor (ds:List D)|pr (d:D) (ls:List D)|ox (G:V->List BJ->Hp->Hp->Prop)
def LOk(K:aB)(F H:Hp)(sd:List Slot)(v:V)(ds:List D):Prop:=
 ∃l xs,v=.ref l/\H l=some (.lst xs)/\RepL K F ds xs/\(F l=some (.lst xs)\/Slot.own l ds∈sd)
noncomputable def ResOk(K:aB)(F H:Hp)(sd:List Slot):R->V->Prop
 |.val d,v=>Rep K F d v
 |.own ds,v=>∃l xs,v=.ref l/\F l=none/\H l=some (.lst xs)/\RepL K F ds xs/\l∉cQ sd
 |.bor ds,v=>LOk K F H sd v ds
 |.pr d ls,v=>∃t l xs y,v=.ref t/\F t=some (.tup [y,.ref l])/\Rep K F d y/\F l=none/\H l=some (.lst xs)/\RepL K F ls xs/\l∉cQ sd
 |.ox G,v=>∃ls:List BJ,ls.Nodup/\(∀l∈ls,F l=none/\(∃ob,H l=some ob/\Wr l ob)/\l∉cQ sd)/\∀F' H',Same F F'->(∀l∈ls,∀ob,H l=some ob->H' l=some ob)->G v ls F' H'
noncomputable def R.keeps:R->Prop
 |.own _=>False
 |.pr _ _=>False
 |.ox _=>False
 |_=>True
variable {r:R}{v:V}
theorem ResOk.keep(hr:r.keeps)(h:ResOk K F H sd r v)(S':StF K H₀ F' H' σ sd)(s:Same F F'):ResOk K F' H' sd r v:=by
 cases r with
 |val d=>exact Rep.mono s h
 |own ds=>exact hr.elim
 |pr d ls=>exact hr.elim
 |ox G=>exact hr.elim
 |bor ds=>
  obtain⟨l,xs,e,hl,rl,q⟩:=h
  rcases q with q|q
  ·exact⟨l,xs,e,S'.sub _ _<|s _ _ q,rl.mono s,.inl<|s _ _ q⟩
  ·obtain⟨i,hi⟩:=gU q;obtain⟨o,_,e2,_,ys,h1,h2⟩:=S'.slots.get hi;exact⟨l,ys,e,h1,h2,.inr q⟩
structure PEd(X:Cx)(sd:List Slot)(e:Expr)(r:R):Prop where
 run:∀ (σ:St) (F H:Hp),StF X.K X.B₀ F H σ sd->
 wE X e σ H λv H'=>∃F',StF X.K X.B₀ F' H' σ sd/\Same F F'/\ResOk X.K F' H' sd r v
instance {X:Cx}{sd:List Slot}{e:Expr}{r:R}:CoeFun (PEd X sd e r) (fun _=>∀ (σ:St) (F H:Hp),StF X.K X.B₀ F H σ sd→
 wE X e σ H λv H'=>∃F',StF X.K X.B₀ F' H' σ sd/\Same F F'/\ResOk X.K F' H' sd r v):=⟨PEd.run⟩
structure PTd(X:Cx)(sd:List Slot)(e:Expr)(b:Bool):Prop where
 run:∀ (σ:St) (F H:Hp),StF X.K X.B₀ F H σ sd->
 wT X e σ H λc H'=>c=b/\∃F',StF X.K X.B₀ F' H' σ sd/\Same F F'
instance {X:Cx}{sd:List Slot}{e:Expr}{b:Bool}:CoeFun (PTd X sd e b) (fun _=>∀ (σ:St) (F H:Hp),StF X.K X.B₀ F H σ sd→
 wT X e σ H λc H'=>c=b/\∃F',StF X.K X.B₀ F' H' σ sd/\Same F F'):=⟨PTd.run⟩
structure PWd(X:Cx)(sd:List Slot)(e:Expr)(b:Bool):Prop where
 run:∀ (σ:St) (F H:Hp),StF X.K X.B₀ F H σ sd->
 wW X e σ H λc H'=>c=b/\∃F',StF X.K X.B₀ F' H' σ sd/\Same F F'
instance {X:Cx}{sd:List Slot}{e:Expr}{b:Bool}:CoeFun (PWd X sd e b) (fun _=>∀ (σ:St) (F H:Hp),StF X.K X.B₀ F H σ sd→
 wW X e σ H λc H'=>c=b/\∃F',StF X.K X.B₀ F' H' σ sd/\Same F F'):=⟨PWd.run⟩
inductive RsOk(K:aB)(F H:Hp)(sd:List Slot):List R->List V->Prop
 |nil:RsOk K F H sd [] []
 |cons {r v rs vs}:ResOk K F H sd r v->RsOk K F H sd rs vs->RsOk K F H sd (r::rs) (v::vs)
structure PAd(X:Cx)(sd:List Slot)(es:List Expr)(rs:List R):Prop where
 run:∀ (σ:St) (F H:Hp),StF X.K X.B₀ F H σ sd->
 wA X es σ H λvs H'=>∃F',StF X.K X.B₀ F' H' σ sd/\Same F F'/\RsOk X.K F' H' sd rs vs
instance {X:Cx}{sd:List Slot}{es:List Expr}{rs:List R}:CoeFun (PAd X sd es rs) (fun _=>∀ (σ:St) (F H:Hp),StF X.K X.B₀ F H σ sd→
 wA X es σ H λvs H'=>∃F',StF X.K X.B₀ F' H' σ sd/\Same F F'/\RsOk X.K F' H' sd rs vs):=⟨PAd.run⟩
structure kE where
 nx:List Slot->Prop
 rt:R->Prop
 bk:List Slot->Prop:=λ_=>False
 ct:List Slot->Prop:=λ_=>False
def aDs(K:aB)(H₀ H:Hp)(r:R)(v:V):Prop:=∃F,Same H₀ F/\Same F H/\Smp H/\ResOk K F H [] r v
noncomputable def lft(X:Cx)(F₀:Hp)(E:kE):uU where
 nx:=λσ H=>∃sd F,StF X.K X.B₀ F H σ sd/\Same F₀ F/\E.nx sd
 rt:=λv H=>∃r,aDs X.K X.B₀ H r v/\E.rt r
 bk:=λσ H=>∃sd F,StF X.K X.B₀ F H σ sd/\Same F₀ F/\E.bk sd
 ct:=λσ H=>∃sd F,StF X.K X.B₀ F H σ sd/\Same F₀ F/\E.ct sd
structure PSd(X:Cx)(sd:List Slot)(sts:List BN)(E:kE):Prop where
 run:∀ (σ:St) (F H:Hp),StF X.K X.B₀ F H σ sd->wSs X sts (lft X F E) σ H
instance {X:Cx}{sd:List Slot}{sts:List BN}{E:kE}:CoeFun (PSd X sd sts E) (λ_=>∀ (σ:St) (F H:Hp),StF X.K X.B₀ F H σ sd->wSs X sts (lft X F E) σ H):=⟨PSd.run⟩
structure PSd1(X:Cx)(sd:List Slot)(st:BN)(E:kE):Prop where
 run:∀ (σ:St) (F H:Hp),StF X.K X.B₀ F H σ sd->wS X st (lft X F E) σ H
instance {X:Cx}{sd:List Slot}{st:BN}{E:kE}:CoeFun (PSd1 X sd st E) (λ_=>∀ (σ:St) (F H:Hp),StF X.K X.B₀ F H σ sd->wS X st (lft X F E) σ H):=⟨PSd1.run⟩
variable {X:Cx}{e a b c:Expr}{es:List Expr}{pos:Pos}{ra rb:R}{d:D}{ds:List D}
theorem PEd.val(h:PEd X sd e (.own ds)):PEd X sd e (.val<|.lst ds):=.mk λσ F H S=>(h σ F H S).imp λv H' ⟨F',S',s,l,xs,e,n,q,rl,no⟩=>by obtain⟨S2,s2⟩:=S'.freeze q n no;refine⟨_,S2,s.trans s2, ?_⟩;show Rep _ _ _ _;simp only[Rep];exact⟨l,xs,e,cG,rl.mono s2⟩
theorem PEd.bor(h:PEd X sd e (.val<|.lst ds)):PEd X sd e (.bor ds):=.mk λσ F H S=>(h σ F H S).imp λv H' ⟨F',S',s,q⟩=>by have q:Rep _ _ _ _:=q;simp only[Rep] at q;obtain⟨l,xs,e,q,rl⟩:=q;exact⟨F',S',s,l,xs,e,S'.sub _ _ q,rl,.inl q⟩
theorem kR(i:Nat){x:Str}(hs:sd[i]? =some (.val d))(h:PE X (.Name x pos) (mW i)):PEd X sd (.Name x pos) (.val d):= .mk fun σ F H S=>h.to (by
 obtain⟨o,h1,v,h2,q⟩:=S.slots.get hs
 exact⟨v,by rw[h1,h2],F,S,Same.refl _,q⟩)
theorem aLt(i:Nat){x:Str}{l:BJ}(hs:sd[i]? =some (.own l ds))(h:PE X (.Name x pos) (mW i)):PEd X sd (.Name x pos) (.bor ds):= .mk fun σ F H S=>h.to (by
 obtain⟨o,h1,h2,n,xs,q,rl⟩:=S.slots.get hs
 exact⟨.ref l,by rw[h1,h2],F,S,Same.refl _,l,xs,rfl,q,rl,.inr (bD hs)⟩)
theorem bB{i j}:PEd X sd (.Constant (.int i) j pos) (.val<|.int i):=.mk λσ F H S=>pe_int.to ⟨F,S,Same.refl _,by simp only[ResOk,Rep]⟩
theorem pX{i j}:PEd X sd (.Constant (.bool i) j pos) (.val<|.bl i):=.mk λσ F H S=>pe_bl.to ⟨F,S,Same.refl _,by simp only[ResOk,Rep]⟩
theorem kQ{j}:PEd X sd (.Constant .none j pos) (.val .non):=.mk λσ F H S=>pe_non.to ⟨F,S,Same.refl _,by simp only[ResOk,Rep]⟩
theorem dL{i j}:PEd X sd (.Constant (.str i) j pos) (.val<|.str i):=.mk λσ F H S=>pe_str.to ⟨F,S,Same.refl _,by simp only[ResOk,Rep]⟩
theorem aGW{x:Str}{i:Int}{u:BH}(hg:Gl X x)(hm:X.mg x=some u)(ru:RelV (.int i) u)(hd:(x==("__debug__":Str))=false:=by decide):PEd X sd (.Name x pos) (.val<|.int i):=.mk λσ F H S=>(aEs hg hm ru hd).to ⟨F,S,Same.refl _,by simp only[ResOk,Rep]⟩
theorem aO:PAd X sd [] []:=.mk λσ F H S=>pa_nil.to ⟨F,S,Same.refl _,.nil⟩
theorem aC{rs:List R}(h1:PEd X sd e r)(h2:PAd X sd es rs)(hk:r.keeps:=by trivial)(hs:AF (e::es) X.env=(false,eval e X.env)::AF es X.env:=by rfl):PAd X sd (e::es) (r::rs):=.mk λσ F H S=>(iH gP aGB hs).to<|(h1 σ F H S).imp λv H1 ⟨F1,S1,s1,q1⟩=>(h2 σ F1 H1 S1).imp λvs H2 ⟨F2,S2,s2,q2⟩=>⟨F2,S2,s1.trans s2,.cons (q1.keep hk S2 s2) q2⟩
theorem RsOk.vals:∀ {ds:List D}{vs:List V},RsOk K F H sd (ds.map R.val) vs->RepL K F ds vs
 |[],_,.nil=>.nil
 |_::_,_,.cons q t=>.cons q<|RsOk.vals t
theorem fY{x1}(h:PAd X sd es (ds.map R.val))(hl:ds.length<=1000):PEd X sd (.Tuple es x1 pos) (.val<|.tup ds):=.mk λσ F H S=>
 (aIH aGB).to ((h σ F H S).imp fun vs H1 ⟨F1,S1,s1,q1⟩=>by
  have rl:=q1.vals;refine⟨by rw[rl.len];exact dG<|gQ hl,λp hp=> ?_⟩;obtain⟨S2,s2⟩:=S1.lay (o:=.tup vs) hp trivial;refine⟨_,S2,s1.trans s2, ?_⟩;simp only[ResOk,Rep]
  exact⟨p,vs,rfl,cG,rl.mono s2⟩)
theorem hG(h:PAd X sd es (ds.map R.val))(hl:ds.length<=1000):PEd X sd (.List es pos) (.own ds):=.mk λσ F H S=>
 (aNm aGB).to ((h σ F H S).imp fun vs H1 ⟨F1,S1,s1,q1⟩=>by
  have rl:=q1.vals;refine⟨by rw[rl.len];exact dG<|gQ hl,λp hp=> ?_⟩;obtain⟨S2,fp,no⟩:=S1.layO (xs:=vs) hp
  exact⟨_,S2,s1,p,vs,rfl,fp,cG,rl,no⟩)
theorem aBC{op:Operator}{r2:R2}(ho:OpR X (Aj op) r2)(ha:PEd X sd a ra)(hb:PEd X sd b rb)(hk:ra.keeps)
  (h:∀ (σ:St) (F H:Hp) (v u:V) (Q:VK),StF X.K X.B₀ F H σ sd->ResOk X.K F H sd ra v->ResOk X.K F H sd rb u->(∀w F' H',StF X.K X.B₀ F' H' σ sd->Same F F'->ResOk X.K F' H' sd r w->Q w H')->r2 v u H Q):
  PEd X sd (.BinOp a op b pos) r:=.mk λσ F H S=>
 (aPK ho gP gP).to ((ha σ F H S).imp λv H1 ⟨F1,S1,s1,q1⟩=>(hb σ F1 H1 S1).imp λu H2 ⟨F2,S2,s2,q2⟩=>h σ F2 H2 v u _ S2 (q1.keep hk S2 s2) q2 λw F' H' S' s' q'=>⟨F',S',(s1.trans s2).trans s',q'⟩)
theorem rR{op:CmpOp}{r2:R2}(ho:OpR X (AS op) r2)(ha:PEd X sd a ra)(hb:PEd X sd b rb)(hk:ra.keeps)(hm:AT op b=false){k:Bool}
  (h:∀ (σ:St) (F H:Hp) (v u:V) (Q:VK),StF X.K X.B₀ F H σ sd->ResOk X.K F H sd ra v->ResOk X.K F H sd rb u->(∀F' H',StF X.K X.B₀ F' H' σ sd->Same F F'->Q (.bl k) H')->r2 v u H Q):
  PEd X sd (.Compare a [op] [b] pos) (.val<|.bl k):=.mk λσ F H S=>
 (aEu ho gP gP hm).to ((ha σ F H S).imp λv H1 ⟨F1,S1,s1,q1⟩=>(hb σ F1 H1 S1).imp λu H2 ⟨F2,S2,s2,q2⟩=>h σ F2 H2 v u _ S2 (q1.keep hk S2 s2) q2 λF' H' S' s'=>⟨F',S',(s1.trans s2).trans s',by simp only[ResOk,Rep]⟩)
theorem kP{k:Bool}(h:PEd X sd e (.val<|.bl k))(he:∀whole,isTrue e X.env whole=(do let v <-whole;standAt e.pos;holding [v] (truthy v)):=by intro _;rfl):PTd X sd e k:=.mk λσ F H S=>
 (aOk gP he).to ((h σ F H S).imp fun v H1 ⟨F1,S1,s1,q1⟩=>by
  simp only[ResOk,Rep] at q1
  exact⟨k,q1,rfl,F1,S1,s1⟩)
theorem nT{op:CmpOp}{r2:R2}(ho:OpR X (AS op) r2)(ha:PEd X sd a ra)(hb:PEd X sd b rb)(hk:ra.keeps)(hm:AT op b=false){k:Bool}
  (h:∀ (σ:St) (F H:Hp) (v u:V) (Q:VK),StF X.K X.B₀ F H σ sd->ResOk X.K F H sd ra v->ResOk X.K F H sd rb u->(∀F' H',StF X.K X.B₀ F' H' σ sd->Same F F'->Q (.bl k) H')->r2 v u H Q):
  PTd X sd (.Compare a [op] [b] pos) k:=.mk λσ F H S=>
 (vD ho gP gP hm).to ((ha σ F H S).imp λv H1 ⟨F1,S1,s1,q1⟩=>(hb σ F1 H1 S1).imp λu H2 ⟨F2,S2,s2,q2⟩=>h σ F2 H2 v u _ S2 (q1.keep hk S2 s2) q2 λF' H' S' s'=>⟨k,rfl,rfl,F',S',(s1.trans s2).trans s'⟩)
variable {st:BN}{rest:List BN}{E:kE}
theorem wS.imp{D D':uU}(h:wS X st D σ H)(k1:∀σ H,D.nx σ H->D'.nx σ H)(k2:∀v H,D.rt v H->D'.rt v H)(k3:∀σ H,D.bk σ H->D'.bk σ H)(k4:∀σ H,D.ct σ H->D'.ct σ H):wS X st D' σ H:=
 λpins s I=>thn (h pins s I) λf s' q=>q.imp k1 k2 k3 k4
theorem mE{k:Bool}(h:PTd X sd e k):PTd X sd (.UnaryOp .Not e pos) (!k):=.mk λσ F H S=>(aNW aJx).to<|(h σ F H S).imp λc H' ⟨e,q⟩=>⟨by rw[e],q⟩
theorem aBS{k:Bool}(h:PTd X sd a k):PWd X sd (.BoolOp .And [a] pos) k:=.mk λσ F H S=>(aKL aJx).to<|h σ F H S
theorem rX{k:Bool}(h:PTd X sd a k):PWd X sd (.BoolOp .Or [a] pos) k:=.mk λσ F H S=>(aNF aJx).to<|h σ F H S
theorem aBf{k j:Bool}(h:PTd X sd a k)(h2:k=true->PWd X sd (.BoolOp .And (b::es) pos) j):PWd X sd (.BoolOp .And (a::b::es) pos) (k&&j):=.mk λσ F H S=>
 (aMJ aJx aOS).to ((h σ F H S).imp fun c H' ⟨e,F',S',s'⟩=>by
  subst e;cases c with
  |false=>exact aIj ⟨rfl,F',S',s'⟩
  |true=>exact aIg ((h2 rfl σ F' H' S').imp λc2 H2 ⟨e2,F2,S2,s2⟩=>⟨by rw[e2];rfl,F2,S2,s'.trans s2⟩))
theorem pP{k j:Bool}(h:PTd X sd a k)(h2:k=false->PWd X sd (.BoolOp .Or (b::es) pos) j):PWd X sd (.BoolOp .Or (a::b::es) pos) (k||j):=.mk λσ F H S=>
 (aPv aJx aOS).to ((h σ F H S).imp fun c H' ⟨e,F',S',s'⟩=>by
  subst e;cases c with
  |true=>exact aIg ⟨rfl,F',S',s'⟩
  |false=>exact aIj ((h2 rfl σ F' H' S').imp λc2 H2 ⟨e2,F2,S2,s2⟩=>⟨by rw[e2];rfl,F2,S2,s'.trans s2⟩))
theorem PWd.pt{k:Bool}(h:PWd X sd e k):PTd X sd e k:=.mk λσ F H S=>(aOS).pt.to<|h σ F H S
theorem rB{op}{r:R}(h:PEd X sd a r):PEd X sd (.BoolOp op [a] pos) r:=.mk λσ F H S=>(aNX gP).to<|h σ F H S
theorem oX{k j:Bool}(h:PEd X sd a (.val<|.bl k))(h2:k=true->PEd X sd (.BoolOp .And (b::es) pos) (.val<|.bl j)):PEd X sd (.BoolOp .And (a::b::es) pos) (.val (.bl<|k&&j)):=.mk λσ F H S=>
 (aNR gP gP).to ((h σ F H S).imp fun v H' ⟨F',S',s',q⟩=>by
  simp only[ResOk,Rep] at q;subst q;refine⟨k,rfl, ?_⟩;cases k with
  |false=>exact aIj ⟨F',S',s',by simp only[ResOk,Rep,lF]⟩
  |true=>exact aIg ((h2 rfl σ F' H' S').imp λv2 H2 ⟨F2,S2,s2,q2⟩=>⟨F2,S2,s'.trans s2,by simpa only[iM] using q2⟩))
theorem aPs{k j:Bool}(h:PEd X sd a (.val<|.bl k))(h2:k=false->PEd X sd (.BoolOp .Or (b::es) pos) (.val<|.bl j)):PEd X sd (.BoolOp .Or (a::b::es) pos) (.val<|.bl (k||j)):=.mk λσ F H S=>
 (aPw gP gP).to ((h σ F H S).imp fun v H' ⟨F',S',s',q⟩=>by
  simp only[ResOk,Rep] at q;subst q;refine⟨k,rfl, ?_⟩;cases k with
  |true=>exact aIg ⟨F',S',s',by simp only[ResOk,Rep,aDq]⟩
  |false=>exact aIj ((h2 rfl σ F' H' S').imp λv2 H2 ⟨F2,S2,s2,q2⟩=>⟨F2,S2,s'.trans s2,by simpa only[aCA] using q2⟩))
theorem aNj{k:Bool}(h:PEd X sd a (.val<|.bl k)):PEd X sd (.UnaryOp .Not a pos) (.val (.bl<|!k)):=.mk λσ F H S=>
 (aNY gP).to ((h σ F H S).imp fun v H' ⟨F',S',s',q⟩=>by
  simp only[ResOk,Rep] at q
  exact⟨k,q,F',S',s',by simp only[ResOk,Rep]⟩)
theorem gE{op:Operator}{g:Int->Int->Int}{i j:Int}(ho:OpR X (Aj op) (rI0 λi j=>.int<|g i j))(ha:PEd X sd a (.val<|.int i))(hb:PEd X sd b (.val<|.int j)):PEd X sd (.BinOp a op b pos) (.val (.int<|g i j)):=
 aBC ho ha hb trivial λσ F H v u Q S q1 q2 k=>by simp only[ResOk,Rep] at q1 q2;exact⟨i,j,q1,q2,k _ F H S (Same.refl _)<|by simp only[ResOk,Rep]⟩
theorem cT{op:Operator}{g:Int->Int->Int}{C:Int->Int->Prop}{i j:Int}(ho:OpR X (Aj op) (rI C λi j=>.int<|g i j))(ha:PEd X sd a (.val<|.int i))(hb:PEd X sd b (.val<|.int j))(hc:C i j):PEd X sd (.BinOp a op b pos) (.val (.int<|g i j)):=
 aBC ho ha hb trivial λσ F H v u Q S q1 q2 k=>by simp only[ResOk,Rep] at q1 q2;exact⟨i,j,q1,q2,hc,k _ F H S (Same.refl _)<|by simp only[ResOk,Rep]⟩
theorem jL:OpR X (Aj .Mult) (rI IntMulOk λi j=>.int<|i*j):=opI λ_ _ _ _ _ _ _ hc q=>mul_int q hc
theorem nX:OpR X (Aj .FloorDiv) (rI (λ_ j=>0<j/\j.natAbs.log2<9000) λi j=>.int<|i / j):=opI λi j _ _ _ _ _ hc q=>by have h1:(0:Int)<j:=hc.1;exact floordiv_int (by omega) (by rw[aAE i<|by omega];exact q) (.inl<|PyProof.noPylong_of_log2 hc.2)
theorem aJF{op:CmpOp}{g:Int->Int->Bool}{i j:Int}(ho:OpR X (AS op) (rI0 λi j=>.bl<|g i j))(ha:PEd X sd a (.val<|.int i))(hb:PEd X sd b (.val<|.int j))(hm:AT op b=false):PEd X sd (.Compare a [op] [b] pos) (.val (.bl<|g i j)):=
 rR ho ha hb trivial hm λσ F H v u Q S q1 q2 k=>by simp only[ResOk,Rep] at q1 q2;exact⟨i,j,q1,q2,k F H S<|Same.refl _⟩
theorem nH{op:CmpOp}{g:Int->Int->Bool}{i j:Int}(ho:OpR X (AS op) (rI0 λi j=>.bl<|g i j))(ha:PEd X sd a (.val<|.int i))(hb:PEd X sd b (.val<|.int j))(hm:AT op b=false):PTd X sd (.Compare a [op] [b] pos) (g i j):=
 nT ho ha hb trivial hm λσ F H v u Q S q1 q2 k=>by simp only[ResOk,Rep] at q1 q2;exact⟨i,j,q1,q2,k F H S<|Same.refl _⟩
noncomputable def flt:D->Option V
 |.non=>some .non
 |.bl b=>some<|.bl b
 |.int i=>some<|.int i
 |.str x=>some<|.str x
 |_=>none
theorem sQ{x:V}(h:flt d=some x)(q:Rep K H d v):v=x:=by
 cases d with
 |non=>simp only[Rep] at q;simp only[flt] at h;rw[q];exact cA.inj h
 |bl=>simp only[Rep] at q;simp only[flt] at h;rw[q];exact cA.inj h
 |int=>simp only[Rep] at q;simp only[flt] at h;rw[q];exact cA.inj h
 |str=>simp only[Rep] at q;simp only[flt] at h;rw[q];exact cA.inj h
 |tup=>simp only[flt] at h;cases h
 |lst=>simp only[flt] at h;cases h
 |dic=>simp only[flt] at h;cases h
 |dki=>simp only[flt] at h;cases h
 |any=>simp only[flt] at h;cases h
 |scr=>simp only[flt] at h;cases h
theorem cV{d1 d2:D}{x y:V}{k:Bool}(ha:PEd X sd a (.val d1))(hb:PEd X sd b (.val d2))(h1:flt d1=some x)(h2:flt d2=some y)(hs:aOV x y=true)(hk:decide (x=y)=k):PTd X sd (.Compare a [.Eq] [b] pos) k:=
 nT aJI ha hb trivial (iI _) λσ F H v u Q S q1 q2 kk=>by have e1:=sQ h1 q1;have e2:=sQ h2 q2;subst e1 e2;exact⟨hs,by rw[hk];exact kk F H S<|Same.refl _⟩
theorem vM{i j:Int}(ha:PEd X sd a (.val<|.int i))(hb:PEd X sd b (.val<|.int j)):PTd X sd (.Compare a [.Eq] [b] pos) (decide<|i=j):=cV ha hb rfl rfl rfl (by rw[aAJ,aDr])
theorem cZ{n:Nat}(ha:PEd X sd a (.val<|.tup ds))(hb:PEd X sd b (.val<|.int (n:Int)))(hd:ds[n]? =some d)(hs:oZ b):PEd X sd (.Subscript a b pos) (.val d):=.mk λσ F H S=>
 (aGK aIq gP gP hs).to ((ha σ F H S).imp fun v H1 ⟨F1,S1,s1,q1⟩=>(hb σ F1 H1 S1).imp fun u H2 ⟨F2,S2,s2,q2⟩=>by
  have q1:=Rep.mono s2 q1;simp only[ResOk,Rep] at q1 q2;obtain⟨p,xs,e1,hp,rl⟩:=q1;obtain⟨w,hw,rw'⟩:=rl.get hd
  exact⟨p,xs,(n:Int),w,e1,q2,.of (S2.sub _ _ hp),aAI hw,F2,S2,s1.trans s2,rw'⟩)
theorem kX{n:Nat}(ha:PEd X sd a (.bor ds))(hb:PEd X sd b (.val<|.int (n:Int)))(hd:ds[n]? =some d)(hs:oZ b):PEd X sd (.Subscript a b pos) (.val d):=.mk λσ F H S=>
 (aGK aEk gP gP hs).to ((ha σ F H S).imp fun v H1 ⟨F1,S1,s1,q1⟩=>(hb σ F1 H1 S1).imp fun u H2 ⟨F2,S2,s2,q2⟩=>by
  obtain⟨p,xs,e1,hp,rl,_⟩:=ResOk.keep (r:=.bor ds) trivial q1 S2 s2;simp only[ResOk,Rep] at q2;obtain⟨w,hw,rw'⟩:=rl.get hd
  exact⟨p,xs,(n:Int),w,e1,q2,.of hp,aAI hw,F2,S2,s1.trans s2,rw'⟩)
theorem aMM{ns:List Int}{n:Nat}{z:Int}(ha:PEd X sd a (.val<|.scr ns))(hb:PEd X sd b (.val<|.int (n:Int)))(hd:ns[n]? =some z)(hs:oZ b):PEd X sd (.Subscript a b pos) (.val<|.int z):=.mk λσ F H S=>
 (aGK aEk gP gP hs).to ((ha σ F H S).imp fun v H1 ⟨F1,S1,s1,q1⟩=>(hb σ F1 H1 S1).imp fun u H2 ⟨F2,S2,s2,q2⟩=>by
  have q1:=Rep.mono (s2.trans S2.sub) q1;simp only[ResOk,Rep] at q1 q2;obtain⟨p,e1,hp⟩:=q1
  exact⟨p,_,(n:Int),.int z,e1,q2,hp,aAI (by rw[bA,hd];rfl),F2,S2,s1.trans s2,by simp only[ResOk,Rep]⟩)
theorem mR{x:Str}{p:Pos}{id:String}{rr:List V->Hp->VK->Prop}{rs:List R}(hc:lY X (.builtin id) rr)(hg:Gl X x)(hm:X.mg x=none)(hv:Ap x=some (.builtin id))(ha:PAd X sd (e::es) rs)
  (h:∀ (σ:St) (F H:Hp) (vs:List V) (Q:VK),StF X.K X.B₀ F H σ sd->RsOk X.K F H sd rs vs->(∀w F' H',StF X.K X.B₀ F' H' σ sd->Same F F'->ResOk X.K F' H' sd r w->Q w H')->rr vs H Q)
  (hn:x≠"__name__":=by decide) (hdb:(x==("__debug__":Str))=false:=by decide) (he:AF (e::es) X.env=(false,eval e X.env)::AF es X.env:=by rfl) (hpl:(Au pos<|AF es X.env).any (·.1)=false:=by rfl):
  PEd X sd (.Call (.Name x p) (e::es) [] pos) r:=.mk λσ F H S=>
 (sK hc hg hm hv aGB hn hdb he hpl).to ((ha σ F H S).imp λvs H1 ⟨F1,S1,s1,q1⟩=>h σ F1 H1 vs _ S1 q1 λw F' H' S' s' q'=>⟨F',S',s1.trans s',q'⟩)
theorem tV{x:Str}{p:Pos}{T:String}{rr:List V->Hp->VK->Prop}{rs:List R}(hc:lY X (.type T) rr)(hg:Gl X x)(hm:X.mg x=none)(hv:Ap x=some (.type T))(ha:PAd X sd (e::es) rs)
  (h:∀ (σ:St) (F H:Hp) (vs:List V) (Q:VK),StF X.K X.B₀ F H σ sd->RsOk X.K F H sd rs vs->(∀w F' H',StF X.K X.B₀ F' H' σ sd->Same F F'->ResOk X.K F' H' sd r w->Q w H')->rr vs H Q)
  (hn:x≠"__name__":=by decide) (hdb:(x==("__debug__":Str))=false:=by decide) (he:AF (e::es) X.env=(false,eval e X.env)::AF es X.env:=by rfl) (hpl:(Au pos<|AF es X.env).any (·.1)=false:=by rfl):
  PEd X sd (.Call (.Name x p) (e::es) [] pos) r:=.mk λσ F H S=>
 (aFj hc hg hm hv aGB hn hdb he hpl).to ((ha σ F H S).imp λvs H1 ⟨F1,S1,s1,q1⟩=>h σ F1 H1 vs _ S1 q1 λw F' H' S' s' q'=>⟨F',S',s1.trans s',q'⟩)
theorem aEA{p:Pos}(hg:Gl X "len")(hm:X.mg "len"=none)(ha:PEd X sd e (.val<|.tup ds))(hst:AF [e] X.env=(false,eval e X.env)::AF [] X.env:=by rfl):PEd X sd (.Call (.Name "len" p) [e] [] pos) (.val<|.int ds.length):=
 mR (he:=hst) oU hg hm PySem.boot_len (aC ha aO trivial hst) λσ F H vs Q S q k=>by
  cases q with
  |cons q1 q2=>cases q2;simp only[ResOk,Rep] at q1;obtain⟨p,xs,rfl,hp,rl⟩:=q1;refine⟨p,xs,rfl,.inr (.of<|S.sub _ _ hp),k _ F H S (Same.refl _) ?_⟩;simp only[ResOk,Rep,rl.len]
theorem mX{p:Pos}(hg:Gl X "len")(hm:X.mg "len"=none)(ha:PEd X sd e (.bor ds))(hst:AF [e] X.env=(false,eval e X.env)::AF [] X.env:=by rfl):PEd X sd (.Call (.Name "len" p) [e] [] pos) (.val<|.int ds.length):=
 mR (he:=hst) oU hg hm PySem.boot_len (aC ha aO trivial hst) λσ F H vs Q S q k=>by
  cases q with
  |cons q1 q2=>cases q2;obtain⟨p,xs,rfl,hp,rl,_⟩:=q1;refine⟨p,xs,rfl,.inl<|.of hp,k _ F H S (Same.refl _) ?_⟩;simp only[ResOk,Rep,rl.len]
theorem aKn{p:Pos}{ns:List Int}(hg:Gl X "len")(hm:X.mg "len"=none)(ha:PEd X sd e (.val<|.scr ns))(hst:AF [e] X.env=(false,eval e X.env)::AF [] X.env:=by rfl):PEd X sd (.Call (.Name "len" p) [e] [] pos) (.val<|.int ns.length):=
 mR (he:=hst) oU hg hm PySem.boot_len (aC ha aO trivial hst) λσ F H vs Q S q k=>by
  cases q with
  |cons q1 q2=>cases q2;have q1:=Rep.mono S.sub q1;simp only[Rep] at q1;obtain⟨p,rfl,hp⟩:=q1;refine⟨p,_,rfl,.inl hp,k _ F H S (Same.refl _) ?_⟩;simp only[ResOk,Rep,aA]
noncomputable def tyD:D->BH
 |.non=>.type "NoneType"
 |.bl _=>.type "bool"
 |.int _=>.type "int"
 |.str _=>.type "str"
 |.tup _=>.type "tuple"
 |.lst _=>.type "list"
 |.dic=>.type "dict"
 |.dki _ _=>.type "dict"
 |.any _=>.type "dict"
 |.scr _=>.type "list"
theorem aPG(h:∀ns,d≠ .scr ns)(hA:∀G,d≠ .any G)(q:Rep K H d v):sI K H v (tyD d):=by
 cases d with
 |non=>simp only[Rep] at q;subst q;exact .non
 |bl b=>simp only[Rep] at q;subst q;exact .bl b
 |int b=>simp only[Rep] at q;subst q;exact .int b
 |str b=>simp only[Rep] at q;subst q;exact .str b
 |tup ds=>simp only[Rep] at q;obtain⟨a,xs,rfl,h,_⟩:=q;exact .tup h
 |lst ds=>simp only[Rep] at q;obtain⟨a,xs,rfl,h,_⟩:=q;exact .lst h
 |dic=>simp only[Rep] at q;obtain⟨a,rfl,h⟩:=q;exact .dK<|.of h
 |dki ks ds=>simp only[Rep] at q;obtain⟨a,xs,rfl,h,_⟩:=q;exact .dK<|.inr h
 |scr ns=>exact absurd rfl<|h ns
 |any G=>exact absurd rfl<|hA G
theorem aFF:lY X (.builtin "isinstance") (λxs H Q=>∃x t n k,xs=[x,.ty n]/\sI X.K H x t/\gB X.K t (.type n)=some k/\Q (.bl k) H):=by intro pins s σ H xs us Q I r h;obtain⟨x,t,n,k,rfl,ty,e,q⟩:=h;obtain⟨u,u',rfl,ru,ru'⟩:=aPh r;cases(show u'=Value.type n from ru');exact aFV I ru ty e λtk=>⟨.bl k,H,I.tok tk,rfl,q⟩
theorem aKO{x:Str}{n:String}(hg:Gl X x)(hm:X.mg x=none)(hv:Ap x=some (.type n))(hn:x≠"__name__":=by decide)(hd:(x==("__debug__":Str))=false:=by decide):PE X (.Name x pos) (tC<|.ty n):=aKf hg hm hv rfl hn hd
theorem aAZ{x:Str}{n:String}{p p2:Pos}{k:Bool}(hg:Gl X "isinstance")(hm:X.mg "isinstance"=none)(hgx:Gl X x)(hmx:X.mg x=none)(hv:Ap x=some (.type n))(ha:PEd X sd e (.val d))(hd:∀ns,d≠ .scr ns)
  (hk:gB X.K (tyD d) (.type n)=some k) (hA:∀G,d≠ .any G:=by(intro _ h;cases h)) (hn:x≠"__name__":=by decide) (hdb:(x==("__debug__":Str))=false:=by decide)
  (he:AF (e::[.Name x p2]) X.env=(false,eval e X.env)::AF [.Name x p2] X.env:=by rfl) (hpl:(Au pos<|AF [.Name x p2] X.env).any (·.1)=false:=by rfl) (hs2:AF [.Name x p2] X.env=(false,eval (.Name x p2) X.env)::AF [] X.env:=by rfl):
  PEd X sd (.Call (.Name "isinstance" p) [e, .Name x p2] [] pos) (.val<|.bl k):=.mk λσ F H S=>
 (sK aFF hg hm boot_isinstance (iH gP (iH (aKO hgx hmx hv hn hdb) pa_nil hs2) he) (by decide) (by decide) he hpl).to ((ha σ F H S).imp λv H1 ⟨F1,S1,s1,q1⟩=>by exact⟨v,tyD d,n,k,rfl,aPG hd hA<|Rep.mono S1.sub q1,hk,F1,S1,s1,by simp only[ResOk,Rep]⟩)
theorem cE(h:E.nx sd):PSd X sd [] E:=.mk λσ F H S=>pss_nil.to ⟨sd,F,S,Same.refl _,h⟩
theorem aF(h:PSd1 X sd st {E with nx:=λsd'=>PSd X sd' rest E}):PSd X sd (st::rest) E:=.mk λσ F H S=>
 (aHO aQm uO).to (wS.imp (h σ F H S) (fun σ' H' ⟨sd',F',S',s',q⟩=>(q σ' F' H' S').imp (fun σ2 H2 ⟨sd2,F2,S2,s2,q2⟩=>⟨sd2,F2,S2,s'.trans s2,q2⟩) (fun v H2 q2=>q2)
  (λσ2 H2 ⟨sd2,F2,S2,s2,q2⟩=>⟨sd2,F2,S2,s'.trans s2,q2⟩) λσ2 H2 ⟨sd2,F2,S2,s2,q2⟩=>⟨sd2,F2,S2,s'.trans s2,q2⟩) (λv H q=>q) (λσ H q=>q) λσ H q=>q)
theorem aY(h:PSd1 X sd st E):PSd X sd [st] E:=.mk λσ F H S=>(aKy aQm).to<|h σ F H S
theorem bL(h:PEd X sd e r)(hr:match r with | .bor _=>False|_=>True)(hE:E.rt r):PSd1 X sd (.Return (some e) pos) E:=.mk λσ F H S=>
 (aJm gP).to ((h σ F H S).imp fun v H' ⟨F',S',s',q⟩=>⟨r,⟨F',S'.base,S'.sub,S'.smp,by
  cases r with
  |val d=>exact q
  |own ds=>obtain⟨l,xs,a,b,c,d,_⟩:=q;exact⟨l,xs,a,b,c,d,by simp[cQ]⟩
  |pr d ls=>obtain⟨t,l,xs,y,a,b,c,d,e,f,_⟩:=q;exact⟨t,l,xs,y,a,b,c,d,e,f,by simp[cQ]⟩
  |ox G=>obtain⟨ls,nd,h,g⟩:=q;exact⟨ls,nd,λl hl=>⟨(h l hl).1,(h l hl).2.1,by simp[cQ]⟩,g⟩
  |bor ds=>exact hr.elim⟩,hE⟩)
theorem nY(i:Nat){x:Str}{p:Pos}{l:BJ}(hs:sd[i]? =some (.own l ds))(h:PE X (.Name x p) (mW i))(hE:E.rt (.own ds)):PSd1 X sd (.Return (some<|.Name x p) pos) E:=.mk λσ F H S=>
 (aJm h).to (by
  obtain⟨o,h1,h2,n,xs,q,rl⟩:=S.slots.get hs
  exact⟨.ref l,by rw[h1,h2],.own ds,⟨F,S.base,S.sub,S.smp,l,xs,rfl,n,q,rl,by simp[cQ]⟩,hE⟩)
theorem gG{k:Bool}{a o:List BN}(h:PTd X sd c k)(h1:k=true->PSd X sd a E)(h2:k=false->PSd X sd o E):PSd1 X sd (.If c a o pos) E:=.mk λσ F H S=>
 (aPX aJx uO uO).to ((h σ F H S).imp fun k' H' ⟨e,F',S',s'⟩=>by
  have up:∀ {sts:List BN},PSd X sd sts E->wSs X sts (lft X F E) σ H':=λh=>(h σ F' H' S').imp (λσ2 H2 ⟨sd2,F2,S2,s2,q2⟩=>⟨sd2,F2,S2,s'.trans s2,q2⟩) (λv H2 q2=>q2)
   (λσ2 H2 ⟨sd2,F2,S2,s2,q2⟩=>⟨sd2,F2,S2,s'.trans s2,q2⟩) λσ2 H2 ⟨sd2,F2,S2,s2,q2⟩=>⟨sd2,F2,S2,s'.trans s2,q2⟩
  subst e;cases k' with
  |true=>exact aIg (up<|h1 rfl)
  |false=>exact aIj (up (h2 rfl)))
theorem lI:∀ {sd:List Slot}{z:Slot} (i:Nat),(cQ sd).Nodup->(∀l,l∈iR z->l∉cQ sd\/(∃z',sd[i]? =some z'/\l∈iR z'))->(hz:(iR z).Nodup:=by simp[iR])->(cQ<|sd.set i z).Nodup/\∀l,l∈cQ (sd.set i z)->l∈cQ sd\/l∈iR z
 |[],z,i,h,_,_=>⟨h,λl hl=>.inl hl⟩
 |z'::zs,z,0,h,hz,nz=>by
  show(iR z++cQ zs).Nodup/\∀l,l∈iR z++cQ zs->_;obtain⟨n1,n2,n3⟩:=bK.mp (show(iR z'++cQ zs).Nodup from h);refine⟨bK.mpr ⟨nz,n2,λa ha b hb e=> ?_⟩,λl hl=> ?_⟩
  ·subst e
   rcases hz a ha with y|⟨z2,e2,y⟩
   ·exact y<|aM _ hb
   ·have:z'=z2:=by simpa using e2
    subst this;exact n3 a y a hb rfl
  ·rcases aU.mp hl with y|y
   ·exact .inr y
   ·exact .inl<|aM _ y
 |z'::zs,z,i+1,h,hz,nz=>by
  show(iR z'++cQ (zs.set i z)).Nodup/\∀l,l∈iR z'++cQ (zs.set i z)->_;obtain⟨n1,n2,n3⟩:=bK.mp (show(iR z'++cQ zs).Nodup from h)
  obtain ⟨i1,i2⟩:=lI (sd:=zs) (z:=z) i n2 (fun l hl=>by
   rcases hz l hl with y|⟨z2,e2,y⟩
   ·exact .inl λq=>y<|aM _ q
   ·exact .inr ⟨z2,by simpa using e2,y⟩) nz
  refine⟨bK.mpr ⟨n1,i1,λa ha b hb e=> ?_⟩,λl hl=> ?_⟩
  ·subst e
   rcases i2 a hb with y|y
   ·exact n3 a ha a y rfl
   ·rcases hz a y with y|⟨z2,e2,y⟩
    ·exact y<|bN _ ha
    ·have m:a∈cQ zs:=eI.mpr ⟨z2,bD (by simpa using e2),y⟩;exact n3 a ha a m rfl
  ·rcases aU.mp hl with y|y
   ·exact .inl<|bN _ y
   ·rcases i2 l y with y|y
    ·exact .inl<|aM _ y
    ·exact .inr y
theorem StF.set(S:StF K H₀ F H σ sd)(i:Nat)(q:Rep K F d v):StF K H₀ F H (σ.set i (some v)) (sd.set i<|.val d):=
 ⟨S.base,S.sub,S.smp,S.slots.set (z:=.val d) ⟨v,rfl,q⟩ i,(lI i S.nd λl e=>by simp[iR] at e).1⟩
theorem StF.setO{l:BJ}{xs:List V}(S:StF K H₀ F H σ sd)(i:Nat)(n:F l=none)(h:H l=some (.lst xs))(q:RepL K F ds xs)(no:l∉cQ sd):StF K H₀ F H (σ.set i (some<|.ref l)) (sd.set i<|.own l ds):=
 ⟨S.base,S.sub,S.smp,S.slots.set (z:=.own l ds) ⟨rfl,n,xs,h,q⟩ i,(lI i S.nd λl' e=>by rw[aN.mp e];exact .inl no).1⟩
theorem jZ(i:Nat){x:Str}{p:Pos}(hN:X.N.Nodup)(hi:X.N[i]? =some x)(hx:Loc X.env.scope x)(h:PEd X sd e (.val d))(hE:E.nx (sd.set i<|.val d))(hs:Ag e (some<|.Name x p) pos.line X.env=pure false:=by rfl)
  (hf:X.fn x=true\/X.env.scope.names.lookup x=some .local:=by first|exact .inl rfl|exact .inr rfl|assumption):PSd1 X sd (.Assign [.Name x p] e pos) E:=.mk λσ F H S=>
 (uI hN hi hx gP hs hf).to ((h σ F H S).imp λv H' ⟨F',S',s',q⟩=>⟨_,F',S'.set i q,s',hE⟩)
theorem sW(i:Nat){x:Str}{p:Pos}(hN:X.N.Nodup)(hi:X.N[i]? =some x)(hx:Loc X.env.scope x)(h:PEd X sd e (.own ds))(hE:∀l,E.nx (sd.set i<|.own l ds))(hs:Ag e (some<|.Name x p) pos.line X.env=pure false:=by rfl)
  (hf:X.fn x=true\/X.env.scope.names.lookup x=some .local:=by first|exact .inl rfl|exact .inr rfl|assumption):PSd1 X sd (.Assign [.Name x p] e pos) E:=.mk λσ F H S=>
 (uI hN hi hx gP hs hf).to ((h σ F H S).imp λv H' ⟨F',S',s',l,xs,e,n,q,rl,no⟩=>⟨_,F',by subst e;exact S'.setO i n q rl no,s',hE l⟩)
noncomputable def Le:List Slot->List Slot->Prop
 |[],[]=>True
 |x::xs,y::ys=>(y=.un\/x=y)/\Le xs ys
 |_,_=>False
theorem Le.refl:∀ (sd:List Slot),Le sd sd
 |[]=>trivial
 |_::xs=>⟨.inr rfl,Le.refl xs⟩
theorem Le.own:∀ {sd sd':List Slot},Le sd sd'->(cQ sd').Sublist (cQ sd)
 |[],[],_=>List.Sublist.refl _
 |[],_::_,h=>h.elim
 |_::_,[],h=>h.elim
 |x::xs,y::ys,h=>by
  obtain⟨h1,h2⟩:=h;have ih:=Le.own h2
  rcases h1 with rfl|rfl
  ·exact ih.trans<|List.sublist_append_right _ _
  ·exact List.Sublist.append (List.Sublist.refl _) ih
theorem Le.slots:∀ {sd sd':List Slot}{σ:St},Le sd sd'->SlotsOk K F H sd σ->SlotsOk K F H sd' σ
 |[],[],_,_,h=>h
 |[],_::_,_,h,_=>h.elim
 |_::_,[],_,h,_=>h.elim
 |x::xs,y::ys,σ,h,q=>by
  obtain⟨h1,h2⟩:=h;obtain⟨o,r,rfl,a,b⟩:=q;refine⟨o,r,rfl, ?_,Le.slots h2 b⟩
  rcases h1 with rfl|rfl
  ·trivial
  ·exact a
theorem StF.le{sd':List Slot}(S:StF K H₀ F H σ sd)(h:Le sd sd'):StF K H₀ F H σ sd':=⟨S.base,S.sub,S.smp,h.slots S.slots,S.nd.sublist h.own⟩
theorem aBz{sd':List Slot}{sts:List BN}(h:Le sd sd')(q:PSd X sd' sts E):PSd X sd sts E:=.mk λσ F H S=>q σ F H<|S.le h
theorem aIo{F₀:Hp}{sts:List BN}(s:Same F₀ F)(h:wSs X sts (lft X F E) σ H):wSs X sts (lft X F₀ E) σ H:=
 h.imp (λσ2 H2 ⟨sd2,F2,S2,s2,q2⟩=>⟨sd2,F2,S2,s.trans s2,q2⟩) (λv H2 q2=>q2) (λσ2 H2 ⟨sd2,F2,S2,s2,q2⟩=>⟨sd2,F2,S2,s.trans s2,q2⟩) λσ2 H2 ⟨sd2,F2,S2,s2,q2⟩=>⟨sd2,F2,S2,s.trans s2,q2⟩
theorem iO:∀ (sd:List Slot) (i:Nat),Le sd (sd.set i .un)
 |[],_=>trivial
 |_::xs,0=>⟨.inl rfl,Le.refl xs⟩
 |_::xs,i+1=>⟨.inr rfl,iO xs i⟩
theorem jJ:∀ {sd:List Slot}{i:Nat}{l:BJ}{z:Slot},(cQ sd).Nodup->sd[i]? =some z->l∈iR z->l∉cQ (sd.set i .un)
 |[],_,_,_,_,e,_=>by simp at e
 |y::zs,0,l,z,h,e,hl=>by
  have:y=z:=by simpa using e
  subst this;obtain⟨n1,n2,n3⟩:=bK.mp (show(iR y++cQ zs).Nodup from h);exact λhm=>n3 l hl l hm rfl
 |y::zs,i+1,l,z,h,e,hl=>by
  have e':zs[i]? =some z:=by simpa using e
  obtain⟨n1,n2,n3⟩:=bK.mp (show(iR y++cQ zs).Nodup from h);have ml:l∈cQ zs:=eI.mpr ⟨_,bD e',hl⟩;intro hm
  rcases aU.mp (show l∈iR y++cQ (zs.set i .un) from hm) with q|q
  ·exact n3 l q l ml rfl
  ·exact jJ n2 e' hl q
theorem qH{i:Nat}{l:BJ}(h:(cQ sd).Nodup)(e:sd[i]? =some (.own l ds)):l∉cQ (sd.set i .un):=jJ h e<|cR l
theorem mM{i:Nat}{o:Option V}(h:σ[i]? =some o):σ.set i o=σ:=by obtain⟨hi,e⟩:=aK.mp h;rw[<-e];exact aDo hi
theorem kS(sd:List Slot)(i:Nat)(x y:Slot):(sd.set i x).set i y=sd.set i y:=by simp
theorem StF.wr{i:Nat}{l:BJ}{ds':List D}{xs':List V}(S:StF K H₀ F H σ sd)(hs:sd[i]? =some (.own l ds))(rl:RepL K F ds' xs'):StF K H₀ F (upd H l<|.lst xs') σ (sd.set i<|.own l ds'):=by
 obtain⟨o,h1,h2,n,xs,q,_⟩:=S.slots.get hs;have no:=qH S.nd hs;have S0:=S.le<|iO sd i;refine⟨S.base,λb u e=> ?_,λb u e=> ?_, ?_, ?_⟩
 ·rw[bV<|cS e n];exact S.sub _ _ e
 ·by_cases h:b=l
  ·subst h;rw[cG] at e;cases e;trivial
  ·rw[bV h] at e;exact S.smp _ _ e
 ·have q1:SlotsOk K F (upd H l<|.lst xs') (sd.set i .un) σ:=S0.slots.mono (Same.refl _) λl' hl=>by
   obtain⟨n',ys,q',_⟩:=S0.slots.owns hl;have hne:l'≠l:=λz=>no<|z▸hl
   exact⟨n',λys e=>by rw[bV hne];exact e⟩
  have q2:=q1.set (z:=.own l ds') (o:=some<|.ref l) ⟨rfl,n,xs',cG,rl⟩ i;rw[kS,mM<|by rw[h1,h2]] at q2;exact q2
 ·have:=lI (z:=Slot.own l ds') i S0.nd λl' e=>by rw[aN.mp e];exact .inl no
  rw[kS] at this;exact this.1
theorem jY(i:Nat){l:BJ}{sts:List BN}(hs:sd[i]? =some (.own l ds))(h:PSd X (sd.set i (.val<|.lst ds)) sts E):PSd X sd sts E:=.mk λσ F H S=>by obtain⟨o,h1,h2,n,xs,q,rl⟩:=S.slots.get hs;have S0:=S.le<|iO sd i;obtain⟨S1,s1⟩:=S0.freeze q n<|qH S.nd hs;have S2:=S1.set (d:=.lst ds) (v:=.ref l) i (by simp only[Rep];exact⟨l,xs,rfl,cG,rl.mono s1⟩);rw[kS,mM<|by rw[h1,h2]] at S2;exact aIo s1<|h σ _ H S2
theorem pD(i:Nat){x:Str}{p ap cp:Pos}{l:BJ}(hs:sd[i]? =some (.own l ds))(hx:PE X (.Name x p) (mW i))(h:PEd X sd e (.val d))(hl:ds.length<=1000)(hE:E.nx (sd.set i (.own l<|ds++[d])))
  (hst:AF (e::[]) X.env=(false,eval e X.env)::AF [] X.env:=by rfl)
  (hm:PE X (.Call (.Attribute (.Name x p) "append" ap) [e] [] cp) (tBM X.K "list" vQ (mW i)<|qT (wE X e) aIf):=by exact aJL oR zN zO aAn (pv _) (iH gP pa_nil))
  (hsw:Ag (.Call (.Attribute (.Name x p) "append" ap) [e] [] cp) none pos.line X.env=pure false:=by rfl):
  PSd1 X sd (.Expr (.Call (.Attribute (.Name x p) "append" ap) [e] [] cp) pos) E:=.mk λσ F H S=>
 (vG hm hsw).to (by
  obtain⟨o,h1,h2,n,xs,q,rl⟩:=S.slots.get hs;refine⟨.ref l,by rw[h1,h2],.inl ⟨rfl,xs,.of q⟩,(h σ F H S).imp λv H1 ⟨F1,S1,s1,q1⟩=> ?_⟩;obtain⟨o',h1',h2',n',xs',q',rl'⟩:=S1.slots.get hs
  exact⟨l,xs',v,rfl,rfl,q',by rw[rl'.len];exact gQ hl,_,F1,S1.wr hs (rl'.app (.one q1)),s1,hE⟩)
theorem yE(i:Nat){x:Str}{p ap cp:Pos}{l:BJ}{ds2:List D}(hs:sd[i]? =some (.own l ds))(hx:PE X (.Name x p) (mW i))(h:PEd X sd e (.val<|.lst ds2))(hl:ds.length+ds2.length<=1000)(hE:E.nx (sd.set i (.own l<|ds++ds2)))
  (hst:AF (e::[]) X.env=(false,eval e X.env)::AF [] X.env:=by rfl)
  (hm:PE X (.Call (.Attribute (.Name x p) "extend" ap) [e] [] cp) (tBM X.K "list" aFd (mW i)<|qT (wE X e) aIf):=by exact aJL oR PySem.F.slot_list_extend PySem.F.type_list_extend aFE (pv _) (iH gP pa_nil))
  (hsw:Ag (.Call (.Attribute (.Name x p) "extend" ap) [e] [] cp) none pos.line X.env=pure false:=by rfl):
  PSd1 X sd (.Expr (.Call (.Attribute (.Name x p) "extend" ap) [e] [] cp) pos) E:=.mk λσ F H S=>
 (vG hm hsw).to (by
  obtain⟨o,h1,h2,n,xs,q,rl⟩:=S.slots.get hs;refine⟨.ref l,by rw[h1,h2],.inl ⟨rfl,xs,.of q⟩,(h σ F H S).imp λv H1 ⟨F1,S1,s1,q1⟩=> ?_⟩;obtain⟨o',h1',h2',n',xs',q',rl'⟩:=S1.slots.get hs;simp only[ResOk,Rep] at q1;obtain⟨b,zs,rfl,hb,rb⟩:=q1
  exact⟨l,b,xs',zs,rfl,rfl,q',S1.sub _ _ hb,by rw[rl'.len,rb.len];exact dG (gQ hl),_,F1,S1.wr hs (rl'.app rb),s1,hE⟩)
noncomputable def spC(K:aB)(n:Nat)(C:List D->R->Prop):Sp:=λvs H Q _=>vs.length=n/\Smp H/\∃ds r,RepL K H ds vs/\C ds r/\∀v H',aDs K H H' r v->Q v H'
noncomputable def spF(K:aB)(n:Nat)(C:List D->R->Prop):Sp:=λvs H Q _=>vs.length=n/\Smp H/\∃F ds r,Same F H/\RepL K F ds vs/\C ds r/\∀v F2 F3 H',Same F F2->Same F2 F3->Same F3 H'->Same H H'->Smp H'->(∀b o,H b=some o->F b=none->F3 b=none)->ResOk K F2 F3 [] r v->Q v H'
noncomputable def sR(F H:Hp):Hp:=λb=>match F b with
 |some o=>some o
 |none=>H b
theorem sJ:Same F (sR F H):=λb o e=>by unfold sR;rw[e]
theorem rY{b:BJ}(h:F b=none):sR F H b=H b:=by unfold sR;rw[h]
theorem FnOk.framed{P:AD}{w:AL}{mg:Str->Option BH}{base:BL}{k n:Nat}{f:BJ}{fd:AW}{ps:List Str}{C:List D->R->Prop}(G:FnOk P w K mg base CX0 k f fd ps (spC K n C)):FnOk P w K mg base CX0 k f fd ps (spF K n C):=by
 refine⟨λvs H Q E h=> ?_,λA outer s H args us vs Q E hr e0 hb rv h=> ?_⟩
 ·obtain⟨hl,sm,F,ds,r,sF,rl,c,_⟩:=h;exact G.len vs F (λ_ _=>True) E ⟨hl,sm.sub sF,ds,r,rl,c,λ_ _ _=>trivial⟩
 ·obtain⟨hl,sm,F,ds,r,sF,rl,c,q⟩:=h;have e1:aLE P w K mg base A outer s F:=⟨e0.frames,e0.mod,λb o e=>⟨(e0.bs b o e).1,sF.free (e0.bs b o e).2⟩,e0.bsz,e0.funs,λb hb=>sF.free<|e0.frf b hb,λb o e=>(e0.hok b o<|sF b o e).smp (sm b o<|sF b o e),e0.bare⟩;refine Aw (G.run A outer s F args us vs (λv F3=>aDs K F F3 r v) E hr e1 hb rv ⟨hl,sm.sub sF,ds,r,rl,c,λv H' z=>z⟩) λrr s' hrr=> ?_
  cases rr with
  |error e=>exact hrr
  |ok fl=>
   cases fl with
   |ret u=>
    obtain⟨v,F3,ho,ha,un,hk,ru,F2,s1,s2,sm3,res⟩:=hrr
    have keepF:∀b o,H b=some o->F b=none->F3 b=none:=λb o e n=>by
     have lt:=e0.hok.lt e;cases g:s.heap.get? b with
     |none=>
      exfalso;have ob:=e0.hok b o e;have z:=sm b o e;cases o with
      |lst xs=>obtain⟨_,_,_,_,g'⟩:=ob;rw[g] at g';cases g'
      |tup xs=>obtain⟨_,_,_,oo,g',_⟩:=ob;rw[g] at g';cases g'
      |dK kvs=>obtain⟨_,_,_,_,oo,_,_,g',_⟩:=ob;rw[g] at g';cases g'
      |frz o2 u2=>obtain⟨g',_⟩:=ob;rw[g] at g';cases g'
      |ext φ=>obtain⟨_,⟨oo,g'⟩,_⟩:=ob;rw[g] at g';cases g'
      |_=>exact z
     |some ob=>exact un.free b ob g n<|by simp
    have keepO:∀b o,H b=some o->F b=none->∀ob,s.heap.get? b=some ob->s'.heap.get? b=some ob:=λb o e n ob g=>un.keep b ob g n (λhb=>by have:=e0.frf b hb;rw[e] at this;cases this)<|by simp
    have sH:Same H (sR F3 H):=λb o e=>by
     cases g:F b with
     |none=>rw[rY<|keepF b o e g];exact e
     |some o'=>have:=sF b o' g;rw[e] at this;cases this;exact sJ _ _ (s2 _ _<|s1 _ _ g)
    have smM:Smp (sR F3 H):=λb o e=>by
     cases g:F3 b with
     |some o'=>have:=sJ (H:=H) b o' g;rw[e] at this;cases this;exact sm3 b o g
     |none=>rw[rY g] at e;exact sm b o e
    refine⟨v,sR F3 H,ho,ha,⟨λb o g n hb hx=>un.keep b o g (sF.free n) hb hx,λb o g n hb hx=>un.slot b o g (sF.free n) hb hx,λb o g n hx=> ?_,un.there,λb xs e=>sH _ _ e,λb o u e=>sH _ _ e,λb ps e=>⟨#[],by rw[sH _ _ e];simp⟩⟩,λb o e=> ?_,ru, ?_⟩
    ·rw[rY<|un.free b o g (sF.free n) hx];exact n
    ·have z:=smM b o e;cases g:F3 b with
     |some o'=>have:=sJ (H:=H) b o' g;rw[e] at this;cases this;exact(hk b o g).smp z
     |none=>
      rw[rY g] at e
      have n:F b=none:=by
       cases g2:F b with
       |none=>rfl
       |some o2=>rw[s2 _ _<|s1 _ _ g2] at g;cases g
      have st:=(e0.hok b o e).smp (F:=λ_=>none) z
      have:ObjOk P w (fun _=>none) s'.heap b o:=st.stay (fun b2 u hb2 gg=>by
       rcases hb2 with rfl|hb2
       ·exact keepO _ o e n u gg
       ·cases hb2) (λb2 hb2=>nomatch hb2) λb2 xs hb2=>nomatch hb2
      exact this.smp z
    ·exact q v F2 F3 (sR F3 H) s1 s2 sJ sH smM keepF res
   |_=>exact hrr
structure bH(P:AD)(w:AL)(K:aB)(mg:Str->Option BH)(base:BL)(x:Str)(k n:Nat)(C:List D->R->Prop):Prop where
 ex:∃ (f:BJ) (fd:AW) (ps:List Str),mg x=some (.ref f)/\eG K (.ref f)=true/\Binds K fd ps []/\FnOk P w K mg base CX0 k f fd ps (spC K n C)
theorem bM{x:Str}{p:Pos}{k n:Nat}{C:List D->R->Prop}(G:bH X.prog X.w X.K X.mg X.base x k n C)(hr:Room k X.A)(hg:Gl X x)(ha:PAd X sd (e::es) (ds.map R.val))(hc:C ds r)(hb:match r with | .bor _=>False|_=>True)(hn:ds.length=n)
  (hdb:(x==("__debug__":Str))=false:=by decide) (he:AF (e::es) X.env=(false,eval e X.env)::AF es X.env:=by rfl) (hpl:(Au pos<|AF es X.env).any (·.1)=false:=by rfl):
  PEd X sd (.Call (.Name x p) (e::es) [] pos) r:=.mk λσ F H S=>by
 obtain⟨f,fd,ps,hm,hk,bd,G⟩:=G.ex;refine(aEI (FnOk.framed G) hr hg hm hk bd .nil aMh aGB hdb he hpl).to<|(ha σ F H S).imp λvs H1 ⟨F1,S1,s1,q1⟩=> ?_;have rl:=q1.vals;refine⟨by rw[cY,rl.len];exact hn,S1.smp,F1,ds,r,S1.sub,by rw[cY];exact rl,hc,λv F2 F3 H' s2 s3 s4 sH sm kp res=> ?_⟩
 have no:∀l,l∈cQ sd->F2 l=none/\F3 l=none:=λl hl=>by obtain⟨n1,xs,q,_⟩:=S1.slots.owns hl;have n3:=kp l _ q n1;exact⟨s3.free n3,n3⟩
 refine⟨F2,⟨λb o e=>s2 _ _<|S1.base _ _ e,s3.trans s4,sm,S1.slots.mono s2 λl hl=>⟨(no l hl).1,λys e=>sH _ _ e⟩,S1.nd⟩,s1.trans s2, ?_⟩;cases r with
 |val d=>exact res
 |own ds'=>obtain⟨l,xs,e,n,q,rl',_⟩:=res;exact⟨l,xs,e,n,s4 _ _ q,rl',λhl=>by rw[(no l hl).2] at q;cases q⟩
 |pr d ls=>obtain⟨t,l,xs,y,e,f,g,n,q,rl',_⟩:=res;exact⟨t,l,xs,y,e,f,g,n,s4 _ _ q,rl',λhl=>by rw[(no l hl).2] at q;cases q⟩
 |ox G=>obtain⟨ls,nd,h,g⟩:=res;refine⟨ls,nd,λl hl=> ?_,λF' H'' sF k=>g F' H'' sF λl hl ob q=>k l hl ob<|s4 _ _ q⟩;obtain⟨n,⟨ob,q,w⟩,_⟩:=h l hl;exact⟨n,⟨ob,s4 _ _ q,w⟩,λhm=>by rw[(no l hm).2] at q;cases q⟩
 |bor ds'=>exact hb.elim
noncomputable def R.toD:R->D
 |.val d=>d
 |.own ds=>.lst ds
 |.bor ds=>.lst ds
 |.pr d ls=>.tup [d,.lst ls]
 |.ox _=>.non
noncomputable def init(n:Nat)(ds:List D):List Slot:=ds.map Slot.val++gS (n-ds.length) .un
theorem aBU{K:aB}{F H:Hp}:∀n:Nat,SlotsOk K F H (gS n .un) (gS n none)
 |0=>rfl
 |n+1=>⟨none,gS n none,rfl,trivial,aBU n⟩
theorem rO{K:aB}{F H:Hp}{m n:Nat}:∀ {ds:List D}{vs:List V},RepL K F ds vs->SlotsOk K F H (ds.map Slot.val++gS n .un) (vs.map some++gS n none)
 |[],vs,r=>by simp only[RepL] at r;subst r;exact aBU n
 |d::ds,vs,r=>by obtain⟨y,ys,rfl,a,rl⟩:=r.uncons;exact⟨some y,_,rfl,⟨y,rfl,a⟩,rO (m:=m) rl⟩
theorem rM(n:Nat):∀ds:List D,cQ (ds.map Slot.val++gS n .un)=[]
 |[]=>by
  induction n with
  |zero=>rfl
  |succ n ih=>exact ih
 |_::ds=>rM n ds
theorem aJj{P:AD}{w:AL}{mg:Str->Option BH}{base:BL}{x qual:Str}{f:BJ}{fd:AW}{N ps:List Str}{k:Nat}{C:List D->R->Prop}(F:Fun K x qual st f fd)(S:pB N ps (bI st))
  (body:∀ (cdv:BH) (A:BK) (outer:List Env) (s:BI) (H:Hp) (E:XK),Room k (A.deeper (Af qual (bI st) s.heap.objs.size f cdv))→∀ds r,ds.length=ps.length→C ds r→
   PSd (nG CX0 P w K mg base N qual (bI st) f cdv A outer s H E).nox (init N.length ds) (iG st) {nx:=λ_=>r=.val .non,rt:=λr'=>r'=r}):FnOk P w K mg base CX0 (k+1) f fd ps (spC K ps.length C):=by
 refine F.ok S (λvs H Q E h=>h.1) λcdv A outer s H vs Q E hr h=> ?_
 obtain⟨hl,sm,ds,r,rl,c,q⟩:=h;have hds:ds.length=ps.length:=by rw[<-rl.len];exact hl
 refine⟨_,uO, ?_⟩;have hlen:N.length-vs.length=N.length-ds.length:=by rw[rl.len]
 have S0:StF K H H H (L2.start N vs) (init N.length ds):=by
  refine⟨Same.refl _,Same.refl _,sm, ?_, ?_⟩
  ·unfold L2.start init;rw[hlen];exact rO (m:=0) rl
  ·unfold init;rw[rM];exact eV
 refine(body cdv A outer s H E hr ds r hds c (L2.start N vs) H H S0).imp ?_ ?_ (λ_ _ ⟨_,_,_,_,z⟩=>z) λ_ _ ⟨_,_,_,_,z⟩=>z
 ·rintro σ' H' ⟨sd',F',S',s',e⟩;have e:r=.val .non:=e;subst e;exact q .non H' ⟨F',S'.base,S'.sub,S'.smp,by simp only[ResOk,Rep]⟩
 ·rintro v H' ⟨r',ro,e⟩;have e:r'=r:=e;subst e;exact q v H' ro
theorem aMX{P:AD}{w:AL}{mg:Str->Option BH}{base:BL}{x qual:Str}{f:BJ}{fd:AW}{N ps:List Str}{k:Nat}{C:List D->R->Prop}(F:Fun K x qual st f fd)(S:pB N ps (bI st))
  (hm:mg x=some (.ref f)) (hb:∀ (kV doc pm:BH) (an:Option BJ) (cdv ct:BH) (us:List BH),us.length=ps.length->bindArgs (gC x qual (kU st) (iG st) (bI st) .none kV doc pm an cdv ct) ⟨us,[]⟩=pure (ps.zip us))
  (body:∀ (cdv:BH) (A:BK) (outer:List Env) (s:BI) (H:Hp) (E:XK),Room k (A.deeper (Af qual (bI st) s.heap.objs.size f cdv))→∀ds r,ds.length=ps.length→C ds r→
   PSd (nG CX0 P w K mg base N qual (bI st) f cdv A outer s H E).nox (init N.length ds) (iG st) {nx:=λ_=>r=.val .non,rt:=λr'=>r'=r}):bH P w K mg base x (k+1) ps.length C:=
 ⟨f,fd,ps,hm,F.kp,F.binds hb,aJj F S body⟩
variable {tg iter:Expr}
def ItD(K:aB)(F₁:Hp)(P:Hp->Hp->Prop)(J:It)(ds:List D):Prop:=∀ (F H:Hp),Same F₁ F->Same F H->Smp H->P F H->∀i,(i<ds.length->J.go i H)/\(ds.length<=i->J.stop i H)/\
 ∀x H' d,ds[i]? =some d->J.yld i H x H'->∃F',Same F F'/\Rep K F' d x/\∀H₀ σ sd,StF K H₀ F H σ sd->StF K H₀ F' H' σ sd
abbrev PT0:Hp->Hp->Prop:=λ_ _=>True
structure PId(X:Cx)(sd:List Slot)(P:Hp->Hp->Prop)(tg iter:Expr)(ds:List D):Prop where
 run:∀ (σ:St) (F H:Hp),StF X.K X.B₀ F H σ sd->
 wI X tg iter σ H λJ H1=>∃F1,StF X.K X.B₀ F1 H1 σ sd/\Same F F1/\ItD X.K F1 P J ds
instance {X:Cx}{sd:List Slot}{P:Hp→Hp→Prop}{tg iter:Expr}{ds:List D}:CoeFun (PId X sd P tg iter ds) (fun _=>∀ (σ:St) (F H:Hp),StF X.K X.B₀ F H σ sd→
 wI X tg iter σ H λJ H1=>∃F1,StF X.K X.B₀ F1 H1 σ sd/\Same F F1/\ItD X.K F1 P J ds):=⟨PId.run⟩
theorem _root_.L2.PI.to{wi:TI}{R:It->Hp->Prop}(h:PI X tg iter wi)(q:wi σ H R):wI X tg iter σ H R:=λpins s I=>h pins s σ H R I q
theorem gH(h:PEd X sd iter (.val<|.lst ds)):PId X sd PT0 tg iter ds:=.mk λσ F H S=>
 (aJV gP).to ((h σ F H S).imp fun v H1 ⟨F1,S1,s1,q1⟩=>by
  simp only[ResOk,Rep] at q1;obtain⟨l,xs,rfl,hl,rl⟩:=q1;refine⟨l,rfl,⟨xs,.of<|S1.sub _ _ hl⟩,F1,S1,s1,λF' H' sF sH sm _ i=> ?_⟩;have hl':=sH _ _<|sF _ _ hl;refine⟨λhi=>⟨xs,xs[i]'(by rw[rl.len];exact hi),.of hl',by simp[rl.len,hi]⟩,λhi=>⟨xs,.of hl',by rw[rl.len];exact hi⟩,λx H2 d hd y=> ?_⟩;obtain⟨rfl,y⟩:=y;obtain⟨v,hv,rv⟩:=rl.get hd;have:=y xs<|.of hl';rw[hv] at this;cases this
  exact⟨F',Same.refl _,rv.mono sF,λ_ _ _ S=>S⟩)
theorem lZ(h:PEd X sd iter (.val<|.tup ds)):PId X sd PT0 tg iter ds:=.mk λσ F H S=>
 (aOe gP).to ((h σ F H S).imp fun v H1 ⟨F1,S1,s1,q1⟩=>by
  simp only[ResOk,Rep] at q1;obtain⟨l,xs,rfl,hl,rl⟩:=q1;refine⟨l,rfl,⟨xs,.of<|S1.sub _ _ hl⟩,F1,S1,s1,λF' H' sF sH sm _ i=> ?_⟩;have hl':=sH _ _<|sF _ _ hl;refine⟨λhi=>⟨xs,xs[i]'(by rw[rl.len];exact hi),.of hl',by simp[rl.len,hi]⟩,λhi=>⟨xs,.of hl',by rw[rl.len];exact hi⟩,λx H2 d hd y=> ?_⟩;obtain⟨rfl,y⟩:=y;obtain⟨v,hv,rv⟩:=rl.get hd;have:=y xs<|.of hl';rw[hv] at this;cases this
  exact⟨F',Same.refl _,rv.mono sF,λ_ _ _ S=>S⟩)
noncomputable def jR(lo:Int)(n:Nat):List D:=(bO n).map λ(k:Nat)=>D.int<|lo+(k:Int)
theorem iU(lo:Int)(n:Nat):(jR lo n).length=n:=by simp[jR]
theorem lJ{lo:Int}{n i:Nat}(h:(jR lo n)[i]? =some d):i<n/\d=.int (lo+(i:Int)):=by
 unfold jR at h;rw[bA] at h
 by_cases hi:i<n
 ·rw[aGt hi] at h;exact⟨hi,(cA.inj h).symm⟩
 ·rw[eR<|by simpa using hi] at h;cases h
theorem aFL{F₁:Hp}{lo:Int}{n:Nat}:ItD K F₁ PT0 (Itr lo n) (jR lo n):=λF H _ _ _ _ i=>by refine⟨λhi=>by rw[iU] at hi;exact hi,λhi=>by rw[iU] at hi;exact hi,λx H' d hd y=> ?_⟩;obtain⟨rfl,rfl⟩:=y;obtain⟨_,rfl⟩:=lJ hd;exact⟨F,Same.refl _,by simp only[Rep],λ_ _ _ S=>S⟩
theorem lH{p:Pos}{n:Nat}(hg:Gl X "range")(hm:X.mg "range"=none)(h:PEd X sd a (.val<|.int (n:Int)))(hn:(n:Int)<2^62)(hs:AF [a] X.env=[(false,eval a X.env)]:=by rfl):PId X sd PT0 tg (.Call (.Name "range" p) [a] [] pos) (jR 0 n):=.mk λσ F H S=>
 (aFk hg hm aGB hs).to ((aC h aO trivial hs σ F H S).imp fun vs H1 ⟨F1,S1,s1,q1⟩=>by
  cases q1 with
  |cons q1 q2=>
   cases q2;simp only[ResOk,Rep] at q1;subst q1
   exact⟨(n:Int),rfl,by omega,hn,F1,S1,s1,by rw[dO];exact aFL⟩)
structure PGd(X:Cx)(sd:List Slot)(tg:Expr)(d:D)(sd':List Slot):Prop where
 run:∀ (σ:St) (F H:Hp) (v:V),StF X.K X.B₀ F H σ sd->Rep X.K F d v->wG X tg v σ H λσ' H'=>∃F',StF X.K X.B₀ F' H' σ' sd'/\Same F F'
instance {X:Cx}{sd:List Slot}{tg:Expr}{d:D}{sd':List Slot}:CoeFun (PGd X sd tg d sd') (λ_=>∀ (σ:St) (F H:Hp) (v:V),StF X.K X.B₀ F H σ sd->Rep X.K F d v->wG X tg v σ H λσ' H'=>∃F',StF X.K X.B₀ F' H' σ' sd'/\Same F F'):=⟨PGd.run⟩
theorem _root_.L2.PG.to{t:TG}{Q:St->Hp->Prop}(h:PG X tg t)(q:t v σ H Q):wG X tg v σ H Q:=λpins s u I r=>h pins s σ H v u Q I r q
theorem dY(j:Nat)(h:PG X tg (aDt j)):PGd X sd tg d (sd.set j<|.val d):=.mk λσ F H v S q=>h.to ⟨F,S.set j q,Same.refl _⟩
noncomputable def gNs:List Nat->TGs
 |[]=>aQv
 |j::js=>aMF (aDt j)<|gNs js
noncomputable def aDF:List Slot->List Nat->List D->List Slot
 |sd,j::js,d::ds=>aDF (sd.set j<|.val d) js ds
 |sd,_,_=>sd
theorem aIZ{K:aB}{H₀ F H:Hp}{Q:St->Hp->Prop}:∀ {js:List Nat}{ds:List D}{vs:List V}{σ:St}{sd:List Slot},js.length=ds.length->RepL K F ds vs->StF K H₀ F H σ sd->(∀σ',StF K H₀ F H σ' (aDF sd js ds)->Q σ' H)->gNs js vs σ H Q
 |[],[],vs,σ,sd,_,r,S,k=>by simp only[RepL] at r;exact⟨r,k σ S⟩
 |j::js,d::ds,vs,σ,sd,hl,r,S,k=>by obtain⟨y,ys,rfl,q,rl⟩:=r.uncons;exact⟨y,ys,rfl,aIZ (by simpa using hl) rl (S.set j q) k⟩
 |[],_::_,_,_,_,hl,_,_,_=>by simp at hl
 |_::_,[],_,_,_,hl,_,_,_=>by simp at hl
theorem kB{k:Nat}{js:List Nat}(hc:X.calm=true)(h:PGs X es (gNs js))(hl:js.length=ds.length)(hn:(BC es X.env).length=ds.length)(hst:(BC es X.env).findIdx? (·.1)=none:=by rfl):PGd X sd (.Tuple es k pos) (.tup ds) (aDF sd js ds):=.mk λσ F H v S q=>
 (aNT hc h hn hst).to (by
  simp only[Rep] at q;obtain⟨a,xs,rfl,ha,rl⟩:=q
  exact⟨a,xs,rfl,.of (S.sub _ _ ha),rl.len,aIZ hl rl S λσ' S'=>⟨F,S',Same.refl _⟩⟩)
theorem aEU{sd':List Slot}(h:PEd X sd e (.val d))(hg:PGd X sd tg d sd')(hE:E.nx sd')(hs:swapsWithSole [tg] e pos.line X.env=pure false:=by rfl)(hw:swappedStores [tg] e X.env=pure none:=by rfl)
  (h1:(BC [tg] X.env).map (·.2)=[assign tg X.env]:=by rfl):PSd1 X sd (.Assign [tg] e pos) E:=.mk λσ F H S=>
 (aNO gP aOG hs hw h1).to ((h σ F H S).imp λv H1 ⟨F1,S1,s1,q1⟩=>(hg σ F1 H1 v S1 q1).imp λσ' H' ⟨F',S',s'⟩=>⟨sd',F',S',s1.trans s',hE⟩)
theorem vJ{body:List BN}{P:Hp->Hp->Prop}(Sd Td:Nat->List Slot)(hi:PId X sd P tg iter ds)(h0:Le sd (Sd 0))(hg:∀k d,ds[k]? =some d->PGd X (Sd k) tg d (Td k))
  (hb:∀k d,ds[k]? =some d->PSd X (Td k) body {E with nx:=λsd'=>Le sd' (Sd<|k+1),ct:=λsd'=>Le sd' (Sd<|k+1),bk:=E.nx}) (hE:E.nx (Sd ds.length)) (hP:∀k σ F H,StF X.K X.B₀ F H σ (Sd k)->P F H:=by intros;trivial)
  (hc:X.calm=true:=by rfl) (hp:PassesOwn (AG X.prog X.w) X.A X.env X.xe:=by exact PassesOwn.never) (hs:∀x,BB iter X.env x=pure x:=by intro _;rfl):PSd1 X sd (.For tg iter body [] pos) E:=.mk λσ F H S=>
 (aIJ hp hc aQu aOG uO hs).to (by
  intro pins s I;refine thn (hi σ F H S pins s I) λv s1 h1=>thn h1 λitv s2 h2=> ?_
  obtain⟨it,fp,tn,J,H2,e,I2,T,st2,f2,F1,S1,s1',itd⟩:=h2;refine⟨it,fp,tn,J,H2,e,I2,T,st2,f2, ?_⟩;refine⟨λi m σ' H'=>m=ds.length-i/\i<=ds.length/\∃F',StF X.K X.B₀ F' H' σ' (Sd i)/\Same F1 F',⟨ds.length,by simp,bW _,F1,S1.le h0,Same.refl _⟩, ?_⟩;rintro i m σ' H' ⟨rfl,hil,F',S',s'⟩;obtain⟨g1,g2,g3⟩:=itd F' H' s' S'.sub S'.smp (hP _ _ _ _ S') i
  by_cases hlt:i<ds.length
  ·refine .inr ⟨g1 hlt,λσ2 H2=>∃F2,StF X.K X.B₀ F2 H2 σ2 (Sd<|i+1)/\Same F1 F2,λσ2 H2 ⟨F2,S2,s2⟩=>⟨ds.length-(i+1),by omega,rfl,hlt,F2,S2,s2⟩,λx H2 y=> ?_⟩;have hd:ds[i]? =some ds[i]:=by simp[hlt]
   obtain⟨F2,s2,rp,up⟩:=g3 x H2 ds[i] hd y;refine(hg i _ hd σ' F2 H2 x (up _ _ _ S') rp).imp λσ3 H3 ⟨F3,S3,s3⟩=> ?_
   have base:Same F1 F3:=(s'.trans s2).trans s3;refine(hb i _ hd σ3 F3 H3 S3).imp ?_ ?_ ?_ ?_
   ·rintro σ4 H4 ⟨sd4,F4,S4,s4,le⟩;exact⟨F4,S4.le le,base.trans s4⟩
   ·exact λv H4 q=>q
   ·rintro σ4 H4 ⟨sd4,F4,S4,s4,q⟩;exact⟨sd4,F4,S4,(s1'.trans base).trans s4,q⟩
   ·rintro σ4 H4 ⟨sd4,F4,S4,s4,le⟩;exact⟨F4,S4.le le,base.trans s4⟩
  ·have e:i=ds.length:=by omega
   subst e
   exact .inl ⟨g2 (aP _),Sd ds.length,F',S',s1'.trans s',hE⟩)
theorem Inv.retrack{pins:List (BJ×BM)}{s s':BI}(I0:Inv X pins σ H s):∀ (ls:List BJ),ls.Nodup->(∀l∈ls,F l=none/\(∃xs,H l=some xs/\Wr l xs)/\∀o,s.heap.get? l=some o->s'.heap.get? l=some o)->Inv X pins σ F s'->Inv X pins σ (λb=>if b∈ls then H b else F b) s'
 |[],_,_,I=>by simpa using I
 |l::ls,nd,h,I=>by
  obtain⟨nl,nd'⟩:=cC.mp nd;have J:=Inv.retrack I0 ls nd' (λl' hl=>h l'<|aI _ hl) I;obtain⟨n,⟨xs,hx,wx⟩,kp⟩:=h l aH
  have e:(λb=>if b∈l::ls then H b else F b)=upd (λb=>if b∈ls then H b else F b) l xs:=by
   funext b;unfold upd
   by_cases hb:b=l
   ·subst hb;simp[hx]
   ·simp[hb]
  rw[e];have n':(λb=>if b∈ls then H b else F b) l=none:=by simp[nl,n]
  have ob:=I0.hok l _ hx;clear e;generalize (λb=>if b∈ls then H b else F b)=G at J n' ⊢;refine⟨J.ok,J.os,J.bare,⟨J.base.keep,J.base.slot,λb u g n0 hx0=> ?_,J.base.there,λb ys g=> ?_,λb u ys g=> ?_,λb ps g=> ?_⟩,J.loc,J.cell, ?_,λx c g=> ?_,λp hp=> ?_,J.hok.track n' ?_,J.len⟩
  ·have hb:b≠l:=λq=>by subst q;have:=I0.base.free b u g n0 hx0;rw[hx] at this;cases this
   rw[bV hb];exact J.base.free b u g n0 hx0
  ·have q:=J.base.tups b ys g;rw[bV<|cS q n'];exact q
  ·have q:=J.base.frzs b u ys g;rw[bV<|cS q n'];exact q
  ·obtain⟨m,q⟩:=J.base.tbls b ps g;exact⟨m,by rw[bV<|cS q n'];exact q⟩
  ·rw[bV λq=>by have:=I0.free;rw[q,hx] at this;cases this];exact J.free
  ·rw[bV λq=>by have:=I0.freeC x c g;rw[q,hx] at this;cases this];exact J.freeC x c g
  ·obtain⟨g,n0,rr⟩:=J.pin p hp;refine⟨g, ?_,rr⟩;rw[bV λq=>by have:=(I0.pin p hp).2.1;rw[q,hx] at this;cases this];exact n0
  ·cases xs with
   |lst xs=>obtain⟨z,its,nn,rv,ho⟩:=ob;exact⟨z,its,nn,rv,kp _ ho⟩
   |dK kvs=>obtain⟨z,y,vs,r,o,es,ep,e,c⟩:=ob;exact⟨z,y,vs,r,o,es,ep,kp _ e,c⟩
   |ext φ=>obtain⟨h1,⟨o1,h2⟩,h3⟩:=ob;exact⟨h3 _ _ h1 kp,⟨o1,kp _ h2⟩,h3⟩
   |_=>exact wx.elim
theorem aNJ{P:AD}{w:AL}{h:BL}{l:BJ}{xs:HO}(wx:Wr l xs)(q:H l=some xs)(ok:ObjOk P w H h l xs):∃ys o,H l=some ys/\Wr l ys/\h.get? l=some o/\∀v,o.data≠ .cell v:=by
 cases xs with
 |lst xs=>obtain⟨_,its,nn,_,ho⟩:=ok;exact⟨_,_,q,trivial,ho,λv z=>by cases z⟩
 |dK kvs=>obtain⟨_,_,_,_,o,es,ep,e,_,d,_⟩:=ok;exact⟨_,_,q,trivial,e,λv z=>by rw[d] at z;cases z⟩
 |ext φ=>obtain⟨o,e,n⟩:=id wx;subst e;exact⟨_,o,q,wx,ok.1,n⟩
 |_=>exact wx.elim
theorem aHp(S:StF X.K X.B₀ F H σ sd)(hr:match r with | .bor _=>False|_=>True)(h:wE X e σ F λv F3=>aDs X.K F F3 r v):wE X e σ H λv H'=>∃F',StF X.K X.B₀ F' H' σ sd/\Same F F'/\ResOk X.K F' H' sd r v:=λpins s I=>by
 have I1:Inv X pins σ F s:=I.less S.sub S.base<|S.smp.sub S.sub
 have ob:∀l∈cQ sd,∃xs o,H l=some xs/\Wr l xs/\s.heap.get? l=some o/\∀v,o.data≠ .cell v:=λl hl=>by obtain⟨n,xs,q,wx⟩:=S.slots.owns hl;exact aNJ wx q<|I.hok l _ q
 have I2:Inv X (pins++oV (cQ sd) s.heap) σ F s:=I1.pins_of λp hp=>(aU.mp hp).elim (λz=>I1.pin p<|aM _ z) λz=>by
  obtain⟨hb,g⟩:=tY z;obtain⟨xs,o,q,_,ho,hc⟩:=ob p.1 hb;rw[g] at ho;cases ho;refine⟨g,(S.slots.owns hb).1,λy=> ?_,λy=> ?_,hc⟩
  ·have:=I.free;rw[<-y,q] at this;cases this
  ·obtain⟨_,o',ho',_⟩:=I.ok.funs.mem y;have:=I.base.free p.1 o' ho' (I.ok.frf p.1 y) λz=>I.ok.exfs p.1 z y
   rw[q] at this;cases this
 refine thn (h _ s I2) λu s' ⟨v,F3,I3,rv,F2,s1,s2,sm3,res⟩=> ?_
 have kp:∀l∈cQ sd,F3 l=none/\(∃xs,H l=some xs/\Wr l xs)/\∀o,s.heap.get? l=some o->s'.heap.get? l=some o:=λl hl=>by obtain⟨xs,o,q,wx,ho,_⟩:=ob l hl;have:=I3.pin (l,o)<|aM _ (aM _<|kC hl ho);exact⟨this.2.1,⟨xs,q,wx⟩,λo' g=>by rw[ho] at g;cases g;exact this.1⟩
 have I4:=Inv.retrack I (cQ sd) S.nd kp I3.unpinned;refine⟨v,_,I4,rv,F2,⟨λb o g=>s1 _ _<|S.base _ _ g,λb o g=> ?_,λb o g=> ?_,S.slots.mono s1 λl hl=>⟨s2.free (kp l hl).1,λxs g=>by simpa[hl] using g⟩,S.nd⟩,s1, ?_⟩
 ·have g3:=s2 _ _ g;have:b∉cQ sd:=λhb=>by rw[(kp b hb).1] at g3;cases g3
  simp[this,g3]
 ·by_cases hb:b∈cQ sd
  ·simp[hb] at g;exact S.smp _ _ g
  ·simp[hb] at g;exact sm3 _ _ g
 ·cases r with
  |val d=>exact res
  |own ds'=>
   obtain⟨l,xs,e,n,q,rl',_⟩:=res;have:l∉cQ sd:=λhl=>by rw[(kp l hl).1] at q;cases q
   exact⟨l,xs,e,n,by simp[this,q],rl',this⟩
  |pr d ls=>
   obtain⟨t,l,xs,y,e,f,g,n,q,rl',_⟩:=res;have:l∉cQ sd:=λhl=>by rw[(kp l hl).1] at q;cases q
   exact⟨t,l,xs,y,e,f,g,n,by simp[this,q],rl',this⟩
  |ox G=>
   obtain⟨ls,nd,h,g⟩:=res
   have no:∀l∈ls,l∉cQ sd:=λl hl hm=>by obtain⟨n,⟨ob,q,w⟩,_⟩:=h l hl;rw[(kp l hm).1] at q;cases q
   refine⟨ls,nd,λl hl=> ?_,λF' H' sF k=>g F' H' sF λl hl ob q=>k l hl ob<|by simp[no l hl,q]⟩;obtain⟨n,⟨ob,q,w⟩,_⟩:=h l hl;exact⟨n,⟨ob,by simp[no l hl,q],w⟩,no l hl⟩
  |bor ds'=>exact hr.elim
noncomputable def aLS:Option Slot->Slot
 |some (.val d)=>.val d
 |some (.ox [] G)=>.ox [] G
 |_=>.un
noncomputable def oA(cap:List (Option Nat))(sd:List Slot):List Slot:=cap.map λo=>match o with
 |none=>.un
 |some k=>aLS sd[k]?
theorem aAV{K:aB}{F H F' H':Hp}{σ:St}(h:SlotsOk K F H sd σ)(s:Same F F'):∀cap:List (Option Nat),SlotsOk K F' H' (oA cap sd) (yG cap σ)
 |[]=>rfl
 |o::cap=>by
  refine⟨_,_,rfl, ?_,aAV h s cap⟩;cases o with
  |none=>trivial
  |some k=>
   show jB K F' H' (aLS sd[k]?) _;cases q:sd[k]? with
   |none=>trivial
   |some z=>
    cases z with
    |un=>trivial
    |own l ds=>trivial
    |od l ks ds=>trivial
    |ox ls G=>
     cases ls with
     |cons a ls=>trivial
     |nil=>obtain⟨o,h1,v,h2,h3,h4⟩:=h.get q;subst h2;exact⟨v,by simp[h1],λl hl=>(nomatch hl),λF2 H2 s2 _=>h4 F2 H2 (s.trans s2) λl hl=>(nomatch hl)⟩
    |gh d G=>trivial
    |val d=>obtain⟨o,h1,v,h2,rv⟩:=h.get q;subst h2;exact⟨v,by simp[h1],rv.mono s⟩
theorem rJ:∀ (cap:List (Option Nat)) (sd:List Slot),cQ (oA cap sd)=[]
 |[],_=>rfl
 |o::cap,sd=>by
  have ih:=rJ cap sd;cases o with
  |none=>exact ih
  |some k=>
   show cQ (aLS sd[k]? ::oA cap sd)=[];cases q:sd[k]? with
   |none=>exact ih
   |some z=>
    cases z with
    |ox ls G=>cases ls<;>exact ih
    |_=>exact ih
noncomputable def unS:Slot->Slot
 |.own _ _=>.un
 |.od _ _ _=>.un
 |.ox [] G=>.ox [] G
 |.ox _ _=>.un
 |z=>z
noncomputable def unO(sd:List Slot):List Slot:=sd.map unS
theorem kF:∀sd:List Slot,cQ (unO sd)=[]
 |[]=>rfl
 |.un::r=>kF r
 |.val _::r=>kF r
 |.gh _ _::r=>kF r
 |.own _ _::r=>kF r
 |.od _ _ _::r=>kF r
 |.ox [] _::r=>kF r
 |.ox (_::_) _::r=>kF r
theorem aHT(cap:List (Option Nat))(sd:List Slot):oA cap (unO sd)=oA cap sd:=by
 unfold oA;refine bQ λo _=> ?_
 cases o with
 |none=>rfl
 |some k=>
  show aLS (unO sd)[k]? =aLS sd[k]?;unfold unO;rw[bA];cases q:sd[k]? with
  |none=>rfl
  |some z=>
   cases z with
   |ox ls G=>cases ls<;>rfl
   |_=>rfl
theorem aAl{K:aB}{F H H':Hp}:∀ {sd:List Slot}{σ:St},SlotsOk K F H sd σ->SlotsOk K F H' (unO sd) σ
 |[],_,h=>h
 |z::zs,σ,h=>by
  obtain⟨o,r,rfl,a,b⟩:=h;refine⟨o,r,rfl, ?_,aAl b⟩;cases z with
  |un=>trivial
  |val d=>exact a
  |gh d G=>exact a
  |od l ks ds=>trivial
  |ox ls G=>
   cases ls with
   |cons a ls=>trivial
   |nil=>obtain⟨v,h2,h3,h4⟩:=a;exact⟨v,h2,λl hl=>(nomatch hl),λF2 H2 s2 _=>h4 F2 H2 s2 λl hl=>(nomatch hl)⟩
  |own l ds=>trivial
theorem oK{i:Nat}(p:D->Bool)(h:ds[i]? =some d):(ds.take<|i+1).filter p=(ds.take i).filter p++(if p d then[d] else[]):=by rw[fO,h,aHY];cases hp:p d<;>simp[hp]
theorem iS{elt:Expr}{ifs:List Expr}{scope:Scope}{N M:List Str}{cap:List (Option Nat)}{sc:Scope}{Tb:D->List Slot}(p:D->Bool)(f:D->D)
  (hi:PId X (unO sd) PT0 tg iter ds) (hl:ds.length<=1000)
  (hsc:X.env.scope=sc) (hcn:qE scope sc=true) (hM:X.N=M) (hcap:nV N M scope sc cap=true) (hk:scope.kind=.function)
  (hg:∀cl C fp s H d,d∈ds->PGd (cxB X N scope cl C fp s H) (oA cap sd) tg d (Tb d))
  (hle:∀d,d∈ds->Le (Tb d) (oA cap sd))
  (ht:∀cl C fp s H d,d∈ds->(ifs=[]/\p d=true)\/∃c,ifs=[c]/\PTd (cxB X N scope cl C fp s H) (Tb d) c (p d))
  (he:∀cl C fp s H d,d∈ds->p d=true->PEd (cxB X N scope cl C fp s H) (Tb d) elt (.val<|f d))
  (hc:X.calm=true:=by rfl) (hs:∀x,BB iter X.env x=pure x:=by intro _;rfl):
  PEd X sd (.ListComp elt [⟨tg,iter,ifs,0⟩] scope pos) (.own<|(ds.filter p).map f):=.mk λσ F H S=>by
 refine aHp S trivial ?_;have S0:StF X.K X.B₀ F F σ (unO sd):=⟨S.base,Same.refl _,S.smp.sub S.sub,aAl S.slots,by rw[kF];exact eV⟩;intro pins s I
 have nm:∀y∈scope.names,(y.2=NameKind.free->sc.names.lookup y.1=some NameKind.cell)/\(y.2=NameKind.local->scope.names.lookup y.1=some NameKind.local):=λy hy=>by have q:=bZ.mp hcn y hy;simp only[bC,qD,oP,beq_eq_false_iff_ne,ne_eq,beq_iff_eq] at q;exact⟨λe=>q.1.1.resolve_left λz=>z e,λe=>q.2.resolve_left λz=>z e⟩
 have fre:∀y∈scope.names,y.2=.free->∃c,X.env.cells.lookup y.1=some c:=λy hy e=>I.ok.has y.1 (.inl<|by show X.env.scope.names.lookup y.1=_;rw[hsc];exact(nm y hy).1 e)
 rw[eval_ListComp];refine wpAny_comprehension_free (use:=none) rfl hs (wM fre) hk (λy hy=>(nm y hy).2) ?_;refine thn (hi σ F F S0 pins s I) λv s1 h1=>thn h1 λitv s2 h2=> ?_
 obtain⟨it,fp,tn,J,H2,e,I2,T,st2,f2,F1,S1,s1',itd⟩:=h2;subst e
 have S1b:StF X.K H2 H2 H2 (yG cap σ) (oA cap sd):=⟨Same.refl _,Same.refl _,S1.smp,by
  have q:=aAV (sd:=unO sd) (H':=H2) S1.slots S1.sub cap;rw[aHT] at q
  exact q,by rw[rJ];exact eV⟩
 refine aBX (N:=N) (cap:=cap) (g:=λv σ2 H3 Q=>∀cl C,wG (cxB X N scope cl C fp s2 H2) tg v σ2 H3 Q) (tt:=λσ2 H3 Q=>∀cl C,aOs (cxB X N scope cl C fp s2 H2) ifs σ2 H3 Q) (te:=λσ2 H3 Q=>∀cl C,wE (cxB X N scope cl C fp s2 H2) elt σ2 H3 Q)
  hc hsc hcn (by rw[hM];exact hcap) hk I2 T st2 f2 (λcl C pi s3 σ3 H3 v u Q I3 ru q=>q cl C pi s3 u I3 ru) (λcl C pi s3 σ3 H3 Q I3 q=>q cl C pi s3 I3) (λcl C pi s3 σ3 H3 Q I3 q=>q cl C pi s3 I3)
  (λi m ys σb H3=>m=ds.length-i/\i<=ds.length/\∃Fb,StF X.K H2 Fb H3 σb (oA cap sd)/\RepL X.K Fb (((ds.take i).filter p).map f) ys) ds.length
  ⟨by simp,bW _,H2,S1b,by simpa using RepL.nil⟩ _ ?_
 rintro i m ys σb H3 ⟨rfl,hil,Fb,Sb,rl⟩;have sF1:Same F1 Fb:=λb o g=>Sb.base _ _<|S1.sub _ _ g
 obtain⟨g1,g2,g3⟩:=itd Fb H3 sF1 Sb.sub Sb.smp trivial i
 by_cases hlt:i<ds.length
 ·have hd:ds[i]? =some ds[i]:=by simp[hlt]
  have hm:ds[i]∈ds:=eJ hlt
  have ylen:ys.length<=i:=by rw[rl.len,aA];exact cJ (aDp _ _) (by simp;omega)
  refine .inr ⟨g1 hlt,gQ<|by omega,λys' σ' H'=>∃Fb',StF X.K H2 Fb' H' σ' (oA cap sd)/\RepL X.K Fb' (((ds.take<|i+1).filter p).map f) ys',λys' σ' H' ⟨Fb',Sb',rl'⟩=>⟨ds.length-(i+1),by omega,rfl,hlt,Fb',Sb',rl'⟩,λx H4 y cl C=> ?_⟩;obtain⟨F4,s4,rp,up⟩:=g3 x H4 ds[i] hd y;refine(hg cl C fp s2 H2 _ hm σb F4 H4 x (up _ _ _ Sb) rp).imp λσ5 H5 ⟨F5,S5,s5⟩ cl2 C2=> ?_
  have rl5:=rl.mono<|s4.trans s5
  have fin:∀ (b:Bool) (H6:Hp) (F6:Hp),b=p ds[i]->StF X.K H2 F6 H6 σ5 (Tb ds[i])->Same F5 F6->if b=true then(∀cl C,wE (cxB X N scope cl C fp s2 H2) elt σ5 H6 λv H5=>∃Fb',StF X.K H2 Fb' H5 σ5 (oA cap sd)/\RepL X.K Fb' (((ds.take<|i+1).filter p).map f) (ys++[v])) else ∃Fb',StF X.K H2 Fb' H6 σ5 (oA cap sd)/\RepL X.K Fb' (((ds.take<|i+1).filter p).map f) ys:=λb H6 F6 eb S6 s6=>by
   rw[oK p hd,<-eb];cases b with
   |false=>exact aIj ⟨F6,S6.le<|hle _ hm,by simpa using rl5.mono s6⟩
   |true=>
    refine aIg λcl3 C3=>(he cl3 C3 fp s2 H2 _ hm eb.symm σ5 F6 H6 S6).imp λv H7 ⟨F7,S7,s7,q7⟩=>⟨F7,S7.le<|hle _ hm, ?_⟩
    simp only[if_true,aJ,aZ,fD];exact((rl5.mono s6).mono s7).app<|.one q7
  rcases ht cl2 C2 fp s2 H2 _ hm with⟨e1,e2⟩|⟨c,e1,q⟩
  ·subst e1;exact aCd (fin true H5 F5 e2.symm S5<|Same.refl _)
  ·subst e1;exact aCf<|(q σ5 F5 H5 S5).imp λb H6 ⟨eb,F6,S6,s6⟩=>fin b H6 F6 eb S6 s6
 ·have e:i=ds.length:=by omega
  subst e;refine .inl ⟨g2<|aP _,λD C s' hD hC hDC h0 hL hcc hpp hst ⟨m',ns'⟩ J'=>⟨m',ns',λh' sb=> ?_⟩⟩;have J2:Inv X pins σ (upd H3 D<|.lst ys) {s' with heap:=h',toks:=s'.toks}:=J'.turned (it:=C) (λb o hb g=>sb.extBut b o hb g) (by rw[bV<|Ne.symm hDC];exact hC) hL (.inr h0) hcc hpp;refine⟨.ref D,_,J2,rfl,Fb,λb o g=>Sb.base _ _ (S1.sub _ _<|s1' _ _ g),λb o g=> ?_,λb o g=> ?_,D,ys,rfl,Sb.sub.free hD,cG, ?_,by simp[cQ]⟩
  ·have g3:=Sb.sub _ _ g;rw[bV<|cS g3 hD];exact g3
  ·by_cases hb:b=D
   ·subst hb;rw[cG] at g;cases g;trivial
   ·rw[bV hb] at g;exact Sb.smp _ _ g
  ·simpa using rl
noncomputable def isIB:D->Bool
 |.int _=>true
 |.bl _=>true
 |_=>false
noncomputable def isB:D->Bool
 |.bl _=>true
 |_=>false
noncomputable def isT:D->Bool
 |.tup _=>true
 |_=>false
noncomputable def isL:D->Bool
 |.lst _=>true
 |.scr _=>true
 |_=>false
theorem aKY(K:aB)(d:D):gB K (tyD d) (.type "int")=some (isIB d):=by cases d<;>with_unfolding_all rfl
theorem aCq(K:aB)(d:D):gB K (tyD d) (.type "bool")=some (isB d):=by cases d<;>with_unfolding_all rfl
theorem PEd.cast{r':R}(h:PEd X sd e r)(q:r=r'):PEd X sd e r':=q▸h
theorem fH{k:Bool}{x o:List BN}(h:PTd X sd c k)(hk:k=false)(h2:PSd X sd o E):PSd1 X sd (.If c x o pos) E:=gG h (λe=>by rw[hk] at e;cases e) λ_=>h2
theorem iT{k:Bool}{x o:List BN}(h:PTd X sd c k)(hk:k=true)(h2:PSd X sd x E):PSd1 X sd (.If c x o pos) E:=gG h (λ_=>h2) λe=>by rw[hk] at e;cases e
theorem vK{d1 d2:List D}(ha:PEd X sd a (.bor d1))(hb:PEd X sd b (.bor d2))(hl:d1.length+d2.length<=1000):PEd X sd (.BinOp a .Add b pos) (.own<|d1++d2):=
 aBC aMP ha hb trivial λσ F H v u Q S q1 q2 k=>by obtain⟨l,xs,e1,h1,r1,_⟩:=q1;obtain⟨m,ys,e2,h2,r2,_⟩:=q2;refine⟨l,m,xs,ys,e1,e2,h1,h2,by rw[r1.len,r2.len];exact dG<|gQ hl,λp hp=> ?_⟩;obtain⟨S2,fp,no⟩:=S.layO (xs:=xs++ys) hp;exact k _ F _ S2 (Same.refl _) ⟨p,_,rfl,fp,cG,r1.app r2,no⟩
theorem qF{i:Int}(ha:PEd X sd a (.bor ds))(hb:PEd X sd b (.val<|.int i))(h0:0<=i)(hd:ds[i.toNat]? =some d)(hs:oZ b):PEd X sd (.Subscript a b pos) (.val d):=by
 have e:i=(i.toNat:Int):=by omega
 rw[e] at hb;exact kX ha hb hd hs
theorem mY{i:Int}(ha:PEd X sd a (.val<|.tup ds))(hb:PEd X sd b (.val<|.int i))(h0:0<=i)(hd:ds[i.toNat]? =some d)(hs:oZ b):PEd X sd (.Subscript a b pos) (.val d):=by
 have e:i=(i.toNat:Int):=by omega
 rw[e] at hb;exact cZ ha hb hd hs
theorem yM{i:Int}(h:i.natAbs<2^250):Builtin.Int.intBits i<=2^20:=by
 unfold Builtin.Int.intBits
 split
 ·exact bW _
 ·rename_i hz
  have hne:i.natAbs≠0:=by
   intro z;apply hz;have:i=0:=by omega
   subst this;rfl
  have:=(Nat.log2_lt hne).mpr h;have e:(250:Nat)+1<=2^20:=by decide
  omega
theorem jM{i j:Int}(h1:i.natAbs<2^250)(h2:j.natAbs<2^250):IntMulOk i j:=.of_bits (yM h1)<|yM h2
noncomputable def most:Int:=1000*10^64
noncomputable def bR:List (Int×Int):=[(2,2),(1,1),(1,2),(2,1),(1,3),(3,1),(2,3),(3,2),(1,4),(4,1),(1,5),(5,1),(1,6),(6,1)]
noncomputable def cF(p:Int×Int):D:=.tup [.int p.1,.int p.2]
theorem aBV{ns:List Int}{k:Nat}(h:(ns.map D.int)[k]? =some d):k<ns.length/\d=.int (ns.getD k 0):=by
 rw[bA] at h;cases e:ns[k]? with
 |none=>rw[e] at h;cases h
 |some z=>rw[e] at h;refine⟨(aK.mp e).1, ?_⟩;rw[<-cA.inj h,bX,e];rfl
theorem getD_mem{α:Type}{l:List α}{i:Nat}{d:α}(h:i<l.length):l.getD i d∈l:=by
 have e:l.getD i d=l[i]:=by simp[bX,h]
 rw[e];exact eJ h
theorem aHH(h:aOZ H):Smp H:=λb o e=>by
 rcases h b with z|⟨o',xs,z⟩
 ·rw[z] at e;cases e
 ·rw[z] at e;cases e;trivial
mutual
noncomputable def deq:D->D->Bool
 |.non,.non=>true
 |.bl a,.bl b=>a==b
 |.bl a,.int b=>(if a then 1 else 0)==b
 |.int a,.bl b=>a==(if b then 1 else 0)
 |.int a,.int b=>a==b
 |.str a,.str b=>a==b
 |.tup a,.tup b=>lD a b
 |.lst a,.lst b=>lD a b
 |_,_=>false
noncomputable def lD:List D->List D->Bool
 |[],[]=>true
 |x::xs,y::ys=>deq x y&&lD xs ys
 |_,_=>false
end
mutual
noncomputable def pl:D->Bool
 |.dic=>false
 |.dki _ _=>false
 |.any _=>false
 |.scr _=>false
 |.tup ds=>plL ds
 |.lst ds=>plL ds
 |_=>true
noncomputable def plL:List D->Bool
 |[]=>true
 |d::ds=>pl d&&plL ds
end
mutual
noncomputable def dep:D->Nat
 |.tup ds=>jT ds+1
 |.lst ds=>jT ds+1
 |_=>0
noncomputable def jT:List D->Nat
 |[]=>0
 |d::ds=>max (dep d)<|jT ds
end
theorem aBa:∀ {ds:List D}{i:Nat}{d:D},plL ds=true->ds[i]? =some d->pl d=true
 |[],i,d,_,e=>by simp at e
 |d'::ds,i,d,h,e=>by
  simp only[plL,bC] at h;cases i with
  |zero=>simp at e;subst e;exact h.1
  |succ i=>exact aBa h.2 (by simpa using e)
theorem xI:∀ {ds:List D}{i:Nat}{d:D},ds[i]? =some d->dep d<=jT ds
 |[],i,d,e=>by simp at e
 |d'::ds,i,d,e=>by
  simp only[jT];cases i with
  |zero=>simp at e;subst e;exact Nat.le_max_left _ _
  |succ i=>exact cJ (xI (i:=i)<|by simpa using e)<|Nat.le_max_right _ _
theorem deqL_iff:∀ {xs ys:List D},lD xs ys=true↔xs.length=ys.length/\∀ (j:Nat) (x y:D),xs[j]? =some x->ys[j]? =some y->deq x y=true
 |[],[]=>by simp[lD]
 |[],y::ys=>by simp[lD]
 |x::xs,[]=>by simp[lD]
 |x::xs,y::ys=>by
  simp only[lD,bC,bU,deqL_iff (xs:=xs) (ys:=ys)]
  constructor
  ·rintro⟨h1,h2,h3⟩;refine⟨by omega,λj a b ea eb=> ?_⟩;cases j with
   |zero=>simp at ea eb;subst ea eb;exact h1
   |succ j=>exact h3 j a b (by simpa using ea) (by simpa using eb)
  ·rintro⟨h1,h2⟩;exact⟨h2 0 x y rfl rfl,by omega,λj a b ea eb=>h2 (j+1) a b (by simpa using ea)<|by simpa using eb⟩
mutual
theorem vZ{K:aB}{H:Hp}:∀ {d1 d2:D}{v:V},pl d1=true->Rep K H d1 v->Rep K H d2 v->pl d2=true->deq d1 d2=true
 |.non,d2,v,_,r1,r2,_=>by simp only[Rep] at r1;subst r1;cases d2<;>simp_all[Rep,deq]
 |.bl b,d2,v,_,r1,r2,_=>by simp only[Rep] at r1;subst r1;cases d2<;>simp_all[Rep,deq]
 |.int b,d2,v,_,r1,r2,_=>by simp only[Rep] at r1;subst r1;cases d2<;>simp_all[Rep,deq]
 |.str b,d2,v,_,r1,r2,_=>by simp only[Rep] at r1;subst r1;cases d2<;>simp_all[Rep,deq]
 |.dic,_,_,h,_,_,_=>by simp[pl] at h
 |.dki _ _,_,_,h,_,_,_=>by simp[pl] at h
 |.any _,_,_,h,_,_,_=>by simp[pl] at h
 |.scr _,_,_,h,_,_,_=>by simp[pl] at h
 |.tup ds,d2,v,p1,r1,r2,p2=>by
  simp only[Rep] at r1;obtain⟨a,xs,rfl,ha,rl⟩:=r1;cases d2 with
  |tup es=>simp only[Rep] at r2;obtain⟨a',xs',e,ha',rl'⟩:=r2;cases e;rw[ha] at ha';cases ha';simp only[deq];exact uC (by simpa[pl] using p1) rl rl' (by simpa[pl] using p2)
  |lst es=>simp only[Rep] at r2;obtain⟨a',xs',e,ha',rl'⟩:=r2;cases e;rw[ha] at ha';cases ha'
  |dic=>simp[pl] at p2
  |dki=>simp[pl] at p2
  |any=>simp[pl] at p2
  |scr=>simp[pl] at p2
  |_=>simp[Rep] at r2
 |.lst ds,d2,v,p1,r1,r2,p2=>by
  simp only[Rep] at r1;obtain⟨a,xs,rfl,ha,rl⟩:=r1;cases d2 with
  |lst es=>simp only[Rep] at r2;obtain⟨a',xs',e,ha',rl'⟩:=r2;cases e;rw[ha] at ha';cases ha';simp only[deq];exact uC (by simpa[pl] using p1) rl rl' (by simpa[pl] using p2)
  |tup es=>simp only[Rep] at r2;obtain⟨a',xs',e,ha',rl'⟩:=r2;cases e;rw[ha] at ha';cases ha'
  |dic=>simp[pl] at p2
  |dki=>simp[pl] at p2
  |any=>simp[pl] at p2
  |scr=>simp[pl] at p2
  |_=>simp[Rep] at r2
theorem uC{K:aB}{H:Hp}:∀ {ds es:List D}{xs:List V},plL ds=true->RepL K H ds xs->RepL K H es xs->plL es=true->lD ds es=true
 |[],es,xs,_,r1,r2,_=>by
  simp only[RepL] at r1;subst r1;cases es with
  |nil=>rfl
  |cons e es=>obtain⟨y,ys,z,_⟩:=r2.uncons;cases z
 |d::ds,es,xs,p1,r1,r2,p2=>by
  obtain⟨y,ys,rfl,a,rl⟩:=r1.uncons;cases es with
  |nil=>simp only[RepL] at r2;cases r2
  |cons e es=>obtain⟨y',ys',z,a',rl'⟩:=r2.uncons;cases z;simp only[plL,bC] at p1 p2;simp only[lD,bC];exact⟨vZ p1.1 a a' p2.1,uC p1.2 rl rl' p2.2⟩
end
noncomputable def sD:D->Bool
 |.non=>true
 |.bl _=>true
 |.int _=>true
 |.str _=>true
 |_=>false
theorem vO(h:sD d=true)(r:Rep K H d v):pF v=true/\flt d=some v:=by cases d<;>simp_all[sD,Rep,pF,flt]
variable {P:AD}{w:AL}{s:BI}
theorem jA(hok:HOk P w H s.heap){u:BH}(r:Rep K H (.tup ds) v)(ru:RelV v u):∃a xs its,u=.ref a/\v=.ref a/\RepL K H ds xs/\Vals xs its/\s.heap.IsTuple a its.toArray:=by simp only[Rep] at r;obtain⟨a,xs,rfl,ha,rl⟩:=r;cases ru;obtain⟨_,its,rv,p⟩:=(show ObjOk P w H s.heap a (.tup xs) from hok a _ ha);exact⟨a,xs,its,rfl,rfl,rl,rv,p.tup⟩
theorem lV(hok:HOk P w H s.heap){u:BH}(r:Rep K H (.lst ds) v)(ru:RelV v u):∃a xs its,u=.ref a/\v=.ref a/\RepL K H ds xs/\Vals xs its/\s.heap.IsList a its.toArray:=by simp only[Rep] at r;obtain⟨a,xs,rfl,ha,rl⟩:=r;cases ru;obtain⟨_,its,n,rv,p⟩:=(show ObjOk P w H s.heap a (.lst xs) from hok a _ ha);exact⟨a,xs,its,rfl,rfl,rl,rv,_,p,rfl,n,rfl⟩
noncomputable def dAt(ds es:List D)(j:Nat):Bool:=match ds[j]?,es[j]? with
 |some x,some y=>deq x y
 |_,_=>false
theorem tF(ds es:List D):((bO<|min ds.length es.length).all (dAt ds es)&&ds.length==es.length)=lD ds es:=by
 rw[gI,deqL_iff,bC,bZ,beq_iff_eq]
 constructor
 ·rintro⟨h1,h2⟩;refine⟨h2,λj x y ex ey=> ?_⟩;have hj:j<ds.length:=(aK.mp ex).1;have:=h1 j (bP.mpr<|by omega);unfold dAt at this;rw[ex,ey] at this;exact this
 ·rintro⟨h1,h2⟩;refine⟨λj hj=> ?_,h1⟩;have hj':=bP.mp hj;have e1:ds[j]? =some (ds[j]'(by omega)):=by simp
  have e2:es[j]? =some (es[j]'(by omega)):=by simp
  unfold dAt;rw[e1,e2];exact h2 j _ _ e1 e2
theorem tX{es:List D}(h:ds.length=es.length):(bO ds.length).all (dAt ds es)=lD ds es:=by have:=tF ds es;rw[h] at this ⊢;simpa using this
theorem yQ{es:List D}(h:ds.length≠es.length):lD ds es=false:=by
 cases e:lD ds es with
 |false=>rfl
 |true=>exact absurd (deqL_iff.mp e).1 h
mutual
theorem aBA(hok:HOk P w H s.heap):∀ (d1:D) {d2:D}{v1 v2:V}{u1 u2:BH}{A:BK},pl d1=true->pl d2=true->Rep K H d1 v1->Rep K H d2 v2->RelV v1 u1->RelV v2 u2->A.units+dep d1<AQ->SeqAt.EqAt A s u1 u2 (deq d1 d2)
 |.tup ds,d2,v1,v2,u1,u2,A,p1,p2,r1,r2,ru1,ru2,hu=>by
  have hu':A.units<AQ:=by omega
  obtain⟨a,xs,its,rfl,rfl,rl,rv,ht⟩:=jA hok r1 ru1;cases d2 with
  |non=>simp only[Rep] at r2;subst r2;cases ru2;exact SeqAt.EqAt.tuple_none ht hu'
  |bl b=>simp only[Rep] at r2;subst r2;cases ru2;exact SeqAt.EqAt.tuple_bool b ht hu'
  |int b=>simp only[Rep] at r2;subst r2;obtain⟨t,rfl⟩:=ru2;exact SeqAt.EqAt.tuple_int b t ht hu'
  |str b=>simp only[Rep] at r2;subst r2;obtain⟨t,rfl⟩:=ru2;exact SeqAt.EqAt.tuple_str b t ht hu'
  |dic=>simp[pl] at p2
  |dki=>simp[pl] at p2
  |any=>simp[pl] at p2
  |scr=>simp[pl] at p2
  |lst es=>obtain⟨b,ys,jts,rfl,rfl,rl2,rv2,hl2⟩:=lV hok r2 ru2;exact SeqAt.EqAt.tuple_list ht hl2 hu'
  |tup es=>
   obtain⟨b,ys,jts,rfl,e2,rl2,rv2,ht2⟩:=jA hok r2 ru2
   by_cases hab:a=b
   ·subst hab;have:=vZ p1 r1 (e2▸r2) p2;rw[this];exact SeqAt.EqAt.same _
   ·simp only[deq];rw[<-tF];have l1:its.toArray.size=ds.length:=by rw[aV,<-rv.length,rl.len]
    have l2:jts.toArray.size=es.length:=by rw[aV,<-rv2.length,rl2.len]
    rw[<-l1,<-l2];simp only[pl] at p1 p2;simp only[dep] at hu;refine .of_refs hab<|.tuples ht ht2 hu' λj h1 h2=> ?_;exact rE hok ds p1 p2 rl rl2 rv rv2 (A:=A.in1) (by show A.units+1+_<AQ;omega) (by simp)<|by simp
 |.lst ds,d2,v1,v2,u1,u2,A,p1,p2,r1,r2,ru1,ru2,hu=>by
  have hu':A.units<AQ:=by omega
  obtain⟨a,xs,its,rfl,rfl,rl,rv,ht⟩:=lV hok r1 ru1;cases d2 with
  |non=>simp only[Rep] at r2;subst r2;cases ru2;exact SeqAt.EqAt.list_none ht hu'
  |bl b=>simp only[Rep] at r2;subst r2;cases ru2;exact SeqAt.EqAt.list_bool b ht hu'
  |int b=>simp only[Rep] at r2;subst r2;obtain⟨t,rfl⟩:=ru2;exact SeqAt.EqAt.list_int b t ht hu'
  |str b=>simp only[Rep] at r2;subst r2;obtain⟨t,rfl⟩:=ru2;exact SeqAt.EqAt.list_str b t ht hu'
  |dic=>simp[pl] at p2
  |dki=>simp[pl] at p2
  |any=>simp[pl] at p2
  |scr=>simp[pl] at p2
  |tup es=>obtain⟨b,ys,jts,rfl,rfl,rl2,rv2,hl2⟩:=jA hok r2 ru2;exact SeqAt.EqAt.list_tuple ht hl2 hu'
  |lst es=>
   obtain⟨b,ys,jts,rfl,e2,rl2,rv2,ht2⟩:=lV hok r2 ru2
   by_cases hab:a=b
   ·subst hab;have:=vZ p1 r1 (e2▸r2) p2;rw[this];exact SeqAt.EqAt.same _
   ·simp only[deq];have l1:its.toArray.size=ds.length:=by rw[aV,<-rv.length,rl.len]
    have l2:jts.toArray.size=es.length:=by rw[aV,<-rv2.length,rl2.len]
    simp only[pl] at p1 p2;simp only[dep] at hu
    by_cases hl:ds.length=es.length
    ·rw[<-tX hl,<-l1];refine .of_refs hab<|.lists ht ht2 (by rw[l1,l2,hl]) hu' λj h1 h2=> ?_;exact rE hok ds p1 p2 rl rl2 rv rv2 (A:=A.in1) (by show A.units+1+_<AQ;omega) (by simp)<|by simp
    ·rw[yQ hl];exact .of_refs hab<|.lists_lengths ht ht2 (by rw[l1,l2];simpa using hl) hu'
 |.dic,_,_,_,_,_,_,p1,_,_,_,_,_,_=>by simp[pl] at p1
 |.dki _ _,_,_,_,_,_,_,p1,_,_,_,_,_,_=>by simp[pl] at p1
 |.any _,_,_,_,_,_,_,p1,_,_,_,_,_,_=>by simp[pl] at p1
 |.scr _,_,_,_,_,_,_,p1,_,_,_,_,_,_=>by simp[pl] at p1
 |.non,d2,v1,v2,u1,u2,A,p1,p2,r1,r2,ru1,ru2,hu=>by
  have hu':A.units<AQ:=by omega
  simp only[Rep] at r1;subst r1;cases hf:sD d2 with
  |true=>obtain⟨h1,h2⟩:=vO hf r2;have:=wZ (A:=A) (s:=s) ru1 ru2 rfl h1;cases d2<;>simp_all[sD,flt,Rep,deq,eqV]
  |false=>
   cases ru1;cases d2 with
   |tup es=>obtain⟨b,ys,jts,rfl,e2,rl2,rv2,ht2⟩:=jA hok r2 ru2;exact SeqAt.EqAt.none_tuple ht2 hu'
   |lst es=>obtain⟨b,ys,jts,rfl,e2,rl2,rv2,ht2⟩:=lV hok r2 ru2;exact SeqAt.EqAt.none_list ht2 hu'
   |dic=>simp[pl] at p2
   |dki=>simp[pl] at p2
   |any=>simp[pl] at p2
   |scr=>simp[pl] at p2
   |_=>simp[sD] at hf
 |.bl q,d2,v1,v2,u1,u2,A,p1,p2,r1,r2,ru1,ru2,hu=>by
  have hu':A.units<AQ:=by omega
  simp only[Rep] at r1;subst r1;cases hf:sD d2 with
  |true=>obtain⟨h1,h2⟩:=vO hf r2;have:=wZ (A:=A) (s:=s) ru1 ru2 rfl h1;cases d2<;>simp_all[sD,flt,Rep,deq,eqV]
  |false=>
   cases ru1;cases d2 with
   |tup es=>obtain⟨b,ys,jts,rfl,e2,rl2,rv2,ht2⟩:=jA hok r2 ru2;exact SeqAt.EqAt.bool_tuple q ht2 hu'
   |lst es=>obtain⟨b,ys,jts,rfl,e2,rl2,rv2,ht2⟩:=lV hok r2 ru2;exact SeqAt.EqAt.bool_list q ht2 hu'
   |dic=>simp[pl] at p2
   |dki=>simp[pl] at p2
   |any=>simp[pl] at p2
   |scr=>simp[pl] at p2
   |_=>simp[sD] at hf
 |.int q,d2,v1,v2,u1,u2,A,p1,p2,r1,r2,ru1,ru2,hu=>by
  have hu':A.units<AQ:=by omega
  simp only[Rep] at r1;subst r1;cases hf:sD d2 with
  |true=>obtain⟨h1,h2⟩:=vO hf r2;have:=wZ (A:=A) (s:=s) ru1 ru2 rfl h1;cases d2<;>simp_all[sD,flt,Rep,deq,eqV]
  |false=>
   obtain⟨t,rfl⟩:=ru1;cases d2 with
   |tup es=>obtain⟨b,ys,jts,rfl,e2,rl2,rv2,ht2⟩:=jA hok r2 ru2;exact SeqAt.EqAt.int_tuple q t ht2 hu'
   |lst es=>obtain⟨b,ys,jts,rfl,e2,rl2,rv2,ht2⟩:=lV hok r2 ru2;exact SeqAt.EqAt.int_list q t ht2 hu'
   |dic=>simp[pl] at p2
   |dki=>simp[pl] at p2
   |any=>simp[pl] at p2
   |scr=>simp[pl] at p2
   |_=>simp[sD] at hf
 |.str q,d2,v1,v2,u1,u2,A,p1,p2,r1,r2,ru1,ru2,hu=>by
  have hu':A.units<AQ:=by omega
  simp only[Rep] at r1;subst r1;cases hf:sD d2 with
  |true=>obtain⟨h1,h2⟩:=vO hf r2;have:=wZ (A:=A) (s:=s) ru1 ru2 rfl h1;cases d2<;>simp_all[sD,flt,Rep,deq,eqV]
  |false=>
   obtain⟨t,rfl⟩:=ru1;cases d2 with
   |tup es=>obtain⟨b,ys,jts,rfl,e2,rl2,rv2,ht2⟩:=jA hok r2 ru2;exact SeqAt.EqAt.str_tuple q t ht2 hu'
   |lst es=>obtain⟨b,ys,jts,rfl,e2,rl2,rv2,ht2⟩:=lV hok r2 ru2;exact SeqAt.EqAt.str_list q t ht2 hu'
   |dic=>simp[pl] at p2
   |dki=>simp[pl] at p2
   |any=>simp[pl] at p2
   |scr=>simp[pl] at p2
   |_=>simp[sD] at hf
theorem rE(hok:HOk P w H s.heap):∀ (ds:List D) {es:List D}{xs ys:List V}{its jts:List BH}{j:Nat}{x y:BH}{A:BK},plL ds=true->plL es=true->RepL K H ds xs->RepL K H es ys->Vals xs its->Vals ys jts->A.units+jT ds<AQ->its[j]? =some x->jts[j]? =some y->SeqAt.EqAt A s x y (dAt ds es j)
 |[],es,xs,ys,its,jts,j,x,y,A,_,_,r1,_,v1,_,_,e1,_=>by simp only[RepL] at r1;subst r1;cases v1;simp at e1
 |d::ds,es,xs,ys,its,jts,j,x,y,A,p1,p2,r1,r2,v1,v2,hu,e1,e2=>by
  obtain⟨a,as,rfl,ra,rl⟩:=r1.uncons;cases v1 with
  |cons va vas=>
   cases es with
   |nil=>simp only[RepL] at r2;subst r2;cases v2;simp at e2
   |cons e es=>
    obtain⟨b,bs,rfl,rb,rl2⟩:=r2.uncons;cases v2 with
    |cons vb vbs=>
     simp only[plL,bC] at p1 p2;simp only[jT] at hu;cases j with
     |zero=>simp at e1 e2;subst e1 e2;exact aBA hok d p1.1 p2.1 ra rb va vb<|by omega
     |succ j=>exact rE hok ds p1.2 p2.2 rl rl2 vas vbs (by omega) (by simpa using e1) (by simpa using e2)
end
theorem rc_D{pins:List (BJ×BM)}{d1 d2:D}{u:V}{x y:BH}{Q:BH->BI->Prop}(I:Inv X pins σ H s)(hs:(isT d1=true/\isT d2=true)\/(isL d1=true/\isL d2=true))(p1:pl d1=true)(p2:pl d2=true)(r1:Rep K H d1 v)(r2:Rep K H d2 u)(rx:RelV v x)(ry:RelV u y)
  (hu:X.A.units+dep d1+1<AQ) (q:Q (.bool<|deq d1 d2) s):AI (AG X.prog X.w) X.A (AS .Eq x y) Q X.xe s:=by
 have hu':X.A.units<AQ:=by omega
 rcases hs with⟨t1,t2⟩|⟨t1,t2⟩
 ·cases d1<;>first|(simp[isT] at t1;done)|skip
  cases d2<;>first|(simp[isT] at t2;done)|skip
  rename_i ds es;obtain⟨a,xs,its,rfl,rfl,rl,rv,ht⟩:=jA I.hok r1 rx;obtain⟨b,ys,jts,rfl,rfl,rl2,rv2,ht2⟩:=jA I.hok r2 ry;have l1:its.toArray.size=ds.length:=by rw[aV,<-rv.length,rl.len]
  have l2:jts.toArray.size=es.length:=by rw[aV,<-rv2.length,rl2.len]
  simp only[pl] at p1 p2;simp only[dep] at hu;simp only[deq] at q;rw[<-tF,<-l1,<-l2] at q;exact SeqAt.eq_tupleAt ht ht2 hu' (λj h1 h2=>rE I.hok ds p1 p2 rl rl2 rv rv2 (A:=X.A.in1) (by show X.A.units+1+_<AQ;omega) (by simp)<|by simp) q
 ·cases d1<;>first|(simp[isL] at t1;done)|(simp[pl] at p1;done)|skip
  cases d2<;>first|(simp[isL] at t2;done)|(simp[pl] at p2;done)|skip
  rename_i ds es;obtain⟨a,xs,its,rfl,rfl,rl,rv,ht⟩:=lV I.hok r1 rx;obtain⟨b,ys,jts,rfl,rfl,rl2,rv2,ht2⟩:=lV I.hok r2 ry;have l1:its.toArray.size=ds.length:=by rw[aV,<-rv.length,rl.len]
  have l2:jts.toArray.size=es.length:=by rw[aV,<-rv2.length,rl2.len]
  simp only[pl] at p1 p2;simp only[dep] at hu;simp only[deq] at q
  by_cases hl:ds.length=es.length
  ·rw[<-tX hl,<-l1] at q;exact SeqAt.eq_listAt ht ht2 (by rw[l1,l2,hl]) hu' (λj h1 h2=>rE I.hok ds p1 p2 rl rl2 rv rv2 (A:=X.A.in1) (by show X.A.units+1+_<AQ;omega) (by simp)<|by simp) q
  ·rw[yQ hl] at q;exact SeqAt.eq_list_lengthsAt ht ht2 (by rw[l1,l2];simpa using hl) hu' q
theorem aPj{pins:List (BJ×BM)}{d1 d2:D}{u:V}{x y:BH}{Q:BH->BI->Prop}(I:Inv X pins σ H s)(hs:(isT d1=true/\isT d2=true)\/(isL d1=true/\isL d2=true))(p1:pl d1=true)(p2:pl d2=true)(r1:Rep K H d1 v)(r2:Rep K H d2 u)(rx:RelV v x)(ry:RelV u y)
  (hu:X.A.units+dep d1+1<AQ) (q:Q (.bool<|!deq d1 d2) s):AI (AG X.prog X.w) X.A (AS .NotEq x y) Q X.xe s:=by
 have hu':X.A.units<AQ:=by omega
 rcases hs with⟨t1,t2⟩|⟨t1,t2⟩
 ·cases d1<;>first|(simp[isT] at t1;done)|skip
  cases d2<;>first|(simp[isT] at t2;done)|skip
  rename_i ds es;obtain⟨a,xs,its,rfl,rfl,rl,rv,ht⟩:=jA I.hok r1 rx;obtain⟨b,ys,jts,rfl,rfl,rl2,rv2,ht2⟩:=jA I.hok r2 ry;have l1:its.toArray.size=ds.length:=by rw[aV,<-rv.length,rl.len]
  have l2:jts.toArray.size=es.length:=by rw[aV,<-rv2.length,rl2.len]
  simp only[pl] at p1 p2;simp only[dep] at hu;simp only[deq] at q;rw[<-tF,<-l1,<-l2] at q;exact SeqAt.RcNeAt.tuples ht ht2 hu' (λj h1 h2=>rE I.hok ds p1 p2 rl rl2 rv rv2 (A:=X.A.in1) (by show X.A.units+1+_<AQ;omega) (by simp)<|by simp) _ _ _ _ q
 ·cases d1<;>first|(simp[isL] at t1;done)|(simp[pl] at p1;done)|skip
  cases d2<;>first|(simp[isL] at t2;done)|(simp[pl] at p2;done)|skip
  rename_i ds es;obtain⟨a,xs,its,rfl,rfl,rl,rv,ht⟩:=lV I.hok r1 rx;obtain⟨b,ys,jts,rfl,rfl,rl2,rv2,ht2⟩:=lV I.hok r2 ry;have l1:its.toArray.size=ds.length:=by rw[aV,<-rv.length,rl.len]
  have l2:jts.toArray.size=es.length:=by rw[aV,<-rv2.length,rl2.len]
  simp only[pl] at p1 p2;simp only[dep] at hu;simp only[deq] at q
  by_cases hl:ds.length=es.length
  ·rw[<-tX hl,<-l1] at q;exact SeqAt.RcNeAt.lists ht ht2 (by rw[l1,l2,hl]) hu' (λj h1 h2=>rE I.hok ds p1 p2 rl rl2 rv rv2 (A:=X.A.in1) (by show X.A.units+1+_<AQ;omega) (by simp)<|by simp) _ _ _ _ q
  ·rw[yQ hl] at q;exact SeqAt.RcNeAt.lists_lengths ht ht2 (by rw[l1,l2];simpa using hl) hu' _ _ _ _ q
theorem ResOk.rep(S:StF K H₀ F H σ sd)(hk:r.keeps)(q:ResOk K F H sd r v):Rep K H r.toD v:=by
 cases r with
 |val d=>exact Rep.mono S.sub q
 |own ds=>exact hk.elim
 |pr d ls=>exact hk.elim
 |ox G=>exact hk.elim
 |bor ds=>obtain⟨l,xs,e,hl,rl,_⟩:=q;simp only[R.toD,Rep];exact⟨l,xs,e,hl,rl.mono S.sub⟩
theorem aMQ(K:aB)(d1 d2:D)(hs:(isT d1=true/\isT d2=true)\/(isL d1=true/\isL d2=true))(p1:pl d1=true)(p2:pl d2=true)(hu:X.A.units+dep d1+1<AQ):OpR X (AS .Eq) (λx y H Q=>Rep K H d1 x/\Rep K H d2 y/\Q (.bl<|deq d1 d2) H):=by intro pins s σ H x y v u Q I rx ry h;obtain⟨h1,h2,q⟩:=h;exact rc_D I hs p1 p2 h1 h2 rx ry hu ⟨.bl<|deq d1 d2,H,I,rfl,q⟩
theorem aNf(K:aB)(d1 d2:D)(hs:(isT d1=true/\isT d2=true)\/(isL d1=true/\isL d2=true))(p1:pl d1=true)(p2:pl d2=true)(hu:X.A.units+dep d1+1<AQ):OpR X (AS .NotEq) (λx y H Q=>Rep K H d1 x/\Rep K H d2 y/\Q (.bl<|!deq d1 d2) H):=by intro pins s σ H x y v u Q I rx ry h;obtain⟨h1,h2,q⟩:=h;exact aPj I hs p1 p2 h1 h2 rx ry hu ⟨.bl<|!deq d1 d2,H,I,rfl,q⟩
theorem aDN(ha:PEd X sd a ra)(hb:PEd X sd b rb)(ka:ra.keeps)(kb:rb.keeps)(hs:(isT ra.toD=true/\isT rb.toD=true)\/(isL ra.toD=true/\isL rb.toD=true))(p1:pl ra.toD=true)(p2:pl rb.toD=true)(hu:X.A.units+dep ra.toD+1<AQ):PEd X sd (.Compare a [.Eq] [b] pos) (.val (.bl<|deq ra.toD rb.toD)):=
 rR (aMQ X.K _ _ hs p1 p2 hu) ha hb ka (iI _) λσ F H v u Q S q1 q2 k=>⟨q1.rep S ka,q2.rep S kb,k F H S<|Same.refl _⟩
theorem aKR(ha:PEd X sd a ra)(hb:PEd X sd b rb)(ka:ra.keeps)(kb:rb.keeps)(hs:(isT ra.toD=true/\isT rb.toD=true)\/(isL ra.toD=true/\isL rb.toD=true))(p1:pl ra.toD=true)(p2:pl rb.toD=true)(hu:X.A.units+dep ra.toD+1<AQ):PTd X sd (.Compare a [.NotEq] [b] pos) (!deq ra.toD rb.toD):=
 nT (aNf X.K _ _ hs p1 p2 hu) ha hb ka (iI _) λσ F H v u Q S q1 q2 k=>⟨q1.rep S ka,q2.rep S kb,k F H S<|Same.refl _⟩
noncomputable def aNl(K:aB):R2:=λx y H Q=>∃a b ys,x=.ref a/\y=.ref b/\SqT K H a []/\SqT K H b ys/\Q (.ref b) H
theorem op_catT0:OpR X (Aj .Add) (aNl X.K):=by
 intro pins s σ H x y v u Q I rx ry h;obtain⟨a,b,ys,rfl,rfl,ha,hb,q⟩:=h;cases rx;cases ry;obtain⟨its,r1,p1,_⟩:=I.tuple ha;obtain⟨its2,r2,p2,_⟩:=I.tuple hb;cases r1;obtain⟨⟨cls,dd,data,sl⟩,ho,hc,n,hd⟩:=id p1;obtain⟨⟨cls2,dd2,data2,sl2⟩,ho2,hc2,n2,hd2⟩:=id p2;simp only at hc hd hc2 hd2;subst hc hd hc2 hd2
 exact concat_meets ⟨_,ho,rfl⟩ ⟨_,ho2,rfl⟩ noFill_tuple_add seq_tuple_add pE oQ (nL _ _)
  (tuple_addW0 a b ([]:List BH).toArray its2.toArray n n2 dd dd2 sl sl2<|by simp) ⟨ho,ho2,⟨.ref b,H,I,rfl,q⟩⟩
theorem lO{d1 d2:List D}(ha:PEd X sd a (.val<|.tup d1))(hb:PEd X sd b (.val<|.tup d2))(hl:d1.length+d2.length<=1000):PEd X sd (.BinOp a .Add b pos) (.val (.tup<|d1++d2)):=
 aBC (op_catT0.or aLi) ha hb trivial λσ F H v u Q S q1 q2 k=>by
  simp only[ResOk,Rep] at q1 q2;obtain⟨p,xs,e1,hp,rl⟩:=q1;obtain⟨q,ys,e2,hq,rl2⟩:=q2;cases d1 with
  |nil=>simp only[RepL] at rl;subst rl;refine .inl ⟨p,q,ys,e1,e2,.of<|S.sub _ _ hp,.of<|S.sub _ _ hq,k _ F H S (Same.refl _) ?_⟩;simp only[ResOk,Rep,yZ];exact⟨q,ys,rfl,hq,rl2⟩
  |cons z zs=>
   refine .inr ⟨p,q,xs,ys,e1,e2,.of<|S.sub _ _ hp,.of<|S.sub _ _ hq, ?_,by rw[rl.len,rl2.len];exact dG<|gQ hl,λhy=> ?_,λhy p2 hp2=> ?_⟩
   ·intro hx;subst hx;obtain⟨_,_,w,_⟩:=rl.uncons;cases w
   ·subst hy
    have:d2=[]:=by
     cases d2 with
     |nil=>rfl
     |cons w ws=>obtain⟨_,_,w,_⟩:=rl2.uncons;cases w
    subst this;refine k _ F H S (Same.refl _) ?_;simp only[ResOk,Rep,cY];exact⟨p,xs,rfl,hp,rl⟩
   ·obtain⟨S2,s2⟩:=S.lay (o:=.tup<|xs++ys) hp2 trivial;refine k _ _ _ S2 s2 ?_;simp only[ResOk,Rep];exact⟨p2,_,rfl,cG,(rl.app rl2).mono s2⟩
theorem oD{p:Pos}(hg:Gl X "tuple")(hm:X.mg "tuple"=none)(ha:PEd X sd e (.bor ds))(hst:AF [e] X.env=(false,eval e X.env)::AF [] X.env:=by rfl):PEd X sd (.Call (.Name "tuple" p) [e] [] pos) (.val<|.tup ds):=
 tV (he:=hst) zH hg hm PyProof.Rows.boot_tuple (aC ha aO trivial hst) λσ F H vs Q S q k=>by
  cases q with
  |cons q1 q2=>cases q2;obtain⟨p,xs,rfl,hp,rl,_⟩:=q1;refine⟨p,xs,rfl,.inl ⟨.of hp,λl hl=> ?_⟩⟩;obtain⟨S2,s2⟩:=S.lay (o:=.tup xs) hl trivial;refine k _ _ _ S2 s2 ?_;simp only[ResOk,Rep];exact⟨l,xs,rfl,cG,rl.mono s2⟩
noncomputable def Ite(K:aB)(a:BJ):It:=
 ⟨λi H=>∃xs x,SqL K H a xs/\xs[i]? =some x,λi H x H'=>∃p v,x=.ref p/\H p=none/\H'=upd H p (.tup [.int i,v])/\∀xs,SqL K H a xs->xs[i]? =some v,λi H=>∃xs,SqL K H a xs/\xs.length<=i⟩
theorem aKN{pins:List (BJ×BM)}{h':BL}{t':Nat}{e it:BJ}(I:Inv X pins σ H s)(k:∀b o,b≠e->b≠it->s.heap.get? b=some o->h'.get? b=some o)(f1:yD X pins H e)(f2:yD X pins H it):Inv X pins σ H {s with heap:=h',toks:=t'}:=by
 have nit:∀b u,H b=some u->b≠e/\b≠it:=λb u q=>⟨λz=>(by rw[z,f1.1] at q;cases q),λz=>(by rw[z,f2.1] at q;cases q)⟩
 have ne:∀b,b∉[e,it]->b≠e/\b≠it:=λb hc=>⟨λz=>hc (by simp[z]),λz=>hc<|by simp[z]⟩
 refine I.step (g':=s.gens) (d':=s.drawn) (ch:=[e,it]) (λb hb=> ?_) (λb o _ _ hc q _=>k b o (ne b hc).1 (ne b hc).2 q) (λb o _ _ hc q _=>⟨o.slots,k b o (ne b hc).1 (ne b hc).2 q⟩) (λ_ _ _ _ n=>n)
  (λb o hc q=>⟨o,k b o (ne b hc).1 (ne b hc).2 q⟩) (λ_ _ q=>q) (λ_ _ _ q=>q) (λb ps q=>⟨#[],by rw[q];simp⟩) (λm hm=> ?_) (λb u q=> ?_) I.bare
 ·rcases aW.mp hb with z|hb
  ·subst z;exact⟨f1.2.2.2.1,f1.2.1,f1.2.2.2.2.1,f1.2.2.2.2.2⟩
  ·have z:b=it:=by simpa using hb
   subst z;exact⟨f2.2.2.2.1,f2.2.1,f2.2.2.2.2.1,f2.2.2.2.2.2⟩
 ·obtain⟨o,es,ep,ho,r⟩:=hm;exact⟨o,es,ep,k _ o (Ne.symm f1.2.1) (Ne.symm f2.2.1) ho,r⟩
 ·refine(I.hok b u q).stay (λc v hc g=> ?_) (λ_ g=>g) λ_ _ g=>g
  rcases hc with z|z
  ·rw[z] at g ⊢;exact k b v (nit b u q).1 (nit b u q).2 g
  ·exact k c v (nit c _ z).1 (nit c _ z).2 g
theorem aFG{elts:List Expr}{kk:Nat}(a e it:BJ)(hei:e≠it):aIi P w K (.Tuple elts kk pos) (Ite K a) [e,it] e (λi h=>(∃old,IsEnum h e it i old)/\h.IsListIter it a i) where
 mem:=by simp
 obj:=λi h st b hb=>by
  obtain⟨⟨old,he⟩,hit⟩:=st
  rcases aW.mp hb with z|hb
  ·subst z;exact⟨_,he,λv z=>by cases z⟩
  ·have z:b=it:=by simpa using hb
   subst z;obtain⟨o,q,c,d⟩:=hit;exact⟨o,q,λv z=>by rw[d] at z;cases z⟩
 keep:=λi h h' st k=>by obtain⟨⟨old,he⟩,hit⟩:=st;exact⟨⟨old,k e (by simp) _ he⟩,hit.at λo q=>k it (by simp) o q⟩
 item:=by
  intro X hP hw hK hc i pins s σ H E I hf st hg;subst hP hw hK;obtain⟨⟨old,he⟩,hit⟩:=st;obtain⟨xs,x,hq,hx⟩:=hg;obtain⟨its,rv,p,hz⟩:=I.list hq;obtain⟨u,hu,ru⟩:=rv.get hx;have f1:=hf e (by simp);have f2:=hf it (by simp);refine wpAny_pyNext_enum_item he hit p.isList (x:=u) (by simpa using hu) hei λh1 heo hit1 ht1 hz1 hk1=> ?_
  refine⟨_,rfl,wpAny_letOwnedTupleGo_enum heo λh2 he2 hs2=> ?_⟩;have hs2:Heap.SameBut e h1 h2:=hs2;have esz:e<s.heap.objs.size:=aS he;have isz:it<s.heap.objs.size:=by obtain⟨_,q,_⟩:=hit;exact aS q
  have I1:Inv X pins σ H {s with heap:=h2,toks:=s.toks+1}:=aKN I (λb o h1' h2' q=>(hs2.2 b h1').trans<|hk1 b o h1' h2' q) f1 f2;have hn:H s.heap.objs.size=none:=I.hok.fresh<|aP _;have g2:h2.get? s.heap.objs.size=some {cls:=.type "tuple",data:=.seq #[.int i s.toks,u]}:=(hs2.2 _<|lK esz).trans ht1
  have I2:Inv X pins σ (upd H s.heap.objs.size<|.tup [.int i,x]) {s with heap:=h2,toks:=s.toks+1}:=by
   refine I1.track hn I.sz (lK I.lt) (λy c q=> ?_) (λy hy=> ?_) ⟨by show 2<=AN;decide,[.int i s.toks,u],.cons ⟨_,rfl⟩<|.cons ru .nil,⟨_,g2,rfl,⟨_,rfl⟩,rfl⟩⟩
   ·obtain⟨v,o,ho,_⟩:=I.cell y c q;exact bS<|aS ho
   ·exact bS<|aS (I.pin y hy).1
  refine⟨.ref s.heap.objs.size,_,I2,rfl,⟨_,x,rfl,hn,rfl,λys hy=>by rw[I.list_inj hy hq];exact hx⟩,⟨⟨u, ?_⟩, ?_⟩,λb hb=> ?_⟩
  ·have:((i+1:Nat):Int)=(i:Int)+1:=by push_cast;rfl
   rw[this];exact he2
  ·exact hit1.at λo q=>(hs2.2 it<|Ne.symm hei).trans q
  ·rcases aW.mp hb with z|hb
   ·subst z;rw[bV<|bS esz];exact f1.1
   ·have z:b=it:=by simpa using hb
    subst z;rw[bV<|bS isz];exact f2.1
 done:=by intro X hP hw hK hc i pins s σ H E I hf st hg;subst hP hw hK;obtain⟨⟨old,he⟩,hit⟩:=st;obtain⟨xs,hq,hx⟩:=hg;obtain⟨its,rv,p,hz⟩:=I.list hq;obtain⟨f0,f1,f2,f3,f4,f5⟩:=hf it (by simp);have hl:=rv.length;exact wpAny_pyNext_enum_end (I.ok.hd hc) he hit p.isList (by simp;omega) λh' eb=>⟨rfl,I.turned (t':=s.toks) (λb o hb q=>eb b o hb q) f0 f1 f3 f4 f5⟩
 self:=λ_ _ _ _ _ st h=>by obtain⟨⟨old,he⟩,_⟩:=st;exact wpAny_pyIter_enum he h
noncomputable def aPC(K:aB)(ta:TA):TI:=λσ H R=>ta σ H λvs H1=>∃l,vs=[.ref l]/\(∃xs,SqL K H1 l xs)/\R (Ite K l) H1
theorem aLu{elts:List Expr}{kk:Nat}{tp:Pos}{ta:TA}{p:Pos}(hg:Gl X "enumerate")(hm:X.mg "enumerate"=none)(ha:PA X [a] ta)(hs:AF [a] X.env=[(false,eval a X.env)]:=by rfl):PI X (.Tuple elts kk tp) (.Call (.Name "enumerate" p) [a] [] pos) (aPC X.K ta):=by
 intro pins s σ H R I h;refine Call_ (nF I hg hm boot_enumerate<|PyProof.Rows.callWith_type1 (thn (ha pos pins s σ H _ I h) λus s1 ⟨vs,H1,I1,r1,q1⟩=> ?_) hs rfl);obtain⟨l,rfl,⟨xs,hq⟩,q⟩:=q1;cases r1 with
 |cons r rr=>
  cases rr;cases r;obtain⟨its,rv,p,hz⟩:=I1.list hq;refine call_enumerate_list p.isList λh' he hit hsz hk=> ?_
  refine wpAny_pyIter_enum he ?_;have I2:Inv X pins σ H1 {s1 with heap:=h'}:=I1.kept (t':=s1.toks) hk;refine⟨s1.heap.objs.size+1,[s1.heap.objs.size+1,s1.heap.objs.size],_,Ite X.K l,H1,rfl,I2,aFG l _ _<|Nat.succ_ne_self _,⟨⟨_,he⟩,hit⟩,λb hb=> ?_,q⟩
  rcases aW.mp hb with z|hb
  ·subst z;exact I1.fpOk (lB _) (I1.hok.fresh<|lB _)
  ·have z:b=s1.heap.objs.size:=by simpa using hb
   subst z;exact I1.fpOk (aP _) (I1.hok.fresh<|aP _)
noncomputable def uS(ds:List D):List D:=(bO ds.length).map λ(i:Nat)=>D.tup [.int (i:Int),ds.getD i .non]
theorem qL(ds:List D):(uS ds).length=ds.length:=by simp[uS]
theorem uJ{i:Nat}(h:(uS ds)[i]? =some d):∃x,ds[i]? =some x/\d=.tup [.int (i:Int),x]:=by
 unfold uS at h;rw[bA] at h
 by_cases hi:i<ds.length
 ·rw[aGt hi] at h;refine⟨ds[i],by simp[hi], ?_⟩;rw[<-cA.inj h];simp[bX,hi]
 ·rw[eR<|by simpa using hi] at h;cases h
def LP(K:aB)(l:BJ)(ds:List D):Hp->Hp->Prop:=λF H=>∃xs,H l=some (.lst xs)/\RepL K F ds xs
theorem aHD{F₁:Hp}{l:BJ}:ItD X.K F₁ (LP X.K l ds) (Ite X.K l) (uS ds):=λF H _ sH sm hP i=>by
 obtain⟨xs,hl,rl⟩:=hP;refine⟨λhi=> ?_,λhi=> ?_,λx H' d hd y=> ?_⟩
 ·rw[qL] at hi;exact⟨xs,xs[i]'(by rw[rl.len];exact hi),.of hl,by simp[rl.len,hi]⟩
 ·rw[qL] at hi;exact⟨xs,.of hl,by rw[rl.len];exact hi⟩
 ·obtain⟨p,v,rfl,hp,rfl,hv⟩:=y;obtain⟨z,hz,rfl⟩:=uJ hd;have hv:=hv xs<|.of hl;obtain⟨v',h1,rz⟩:=rl.get hz;rw[hv] at h1;cases h1;have fp:F p=none:=sH.free hp;have s1:Same F (upd F p<|.tup [.int i,v]):=λb u q=>by rw[bV<|cS q fp];exact q
  refine⟨upd F p<|.tup [.int i,v],s1, ?_,λH₀ σ sd S=>(S.lay (o:=.tup [.int i,v]) hp trivial).1⟩;simp only[Rep];exact⟨p,_,rfl,cG,.cons (by simp only[Rep]) (.one<|rz.mono s1)⟩
theorem aCn{elts:List Expr}{kk:Nat}{tp p:Pos}(hg:Gl X "enumerate")(hm:X.mg "enumerate"=none)(ha:PEd X sd a (.val<|.lst ds))(hst:AF [a] X.env=[(false,eval a X.env)]:=by rfl):
  PId X sd PT0 (.Tuple elts kk tp) (.Call (.Name "enumerate" p) [a] [] pos) (uS ds):=.mk λσ F H S=>
 (aLu hg hm aGB hst).to ((aC ha aO trivial (by rw [hst]; rfl) σ F H S).imp fun vs H1 ⟨F1,S1,s1,q1⟩=>by
  cases q1 with
  |cons q1 q2=>
   cases q2;simp only[ResOk,Rep] at q1;obtain⟨l,xs,rfl,hl,rl⟩:=q1;refine⟨l,rfl,⟨xs,.of<|S1.sub _ _ hl⟩,F1,S1,s1,λF' H' sF sH sm _ i=> ?_⟩
   exact aHD (X:=X) (F₁:=F1) F' H' sF sH sm ⟨xs,sH _ _ (sF _ _ hl),rl.mono sF⟩ i)
theorem aKB{ns:List Int}{us:List BH}(r:Vals (ns.map V.int) us){i:Nat}{u:BH}(h:us[i]? =some u):i<ns.length/\∃t,u=.int (ns.getD i 0) t:=by
 have hl:=r.length;rw[aA] at hl;have hi:i<us.length:=(aK.mp h).1
 have e:(ns.map V.int)[i]? =some (.int<|ns.getD i 0):=by
  rw[bA];have:i<ns.length:=by omega
  simp[bX,this]
 obtain⟨u',h1,t,h2⟩:=r.get e;rw[h] at h1;cases h1;exact⟨by omega,t,h2⟩
noncomputable def cutD(ds:List D)(lo hi:Option Int):List D:=(ds.drop<|HT.sIx ds.length 0 lo).take<|HT.sIx ds.length ds.length hi-HT.sIx ds.length 0 lo
theorem RepL.cut{xs:List V}(r:RepL K H ds xs)(lo hi:Option Int):RepL K H (cutD ds lo hi) (xG xs lo hi):=by unfold cutD xG;rw[r.len];exact(r.drop _).take _
def POd(X:Cx)(sd:List Slot)(e:Option Expr)(o:Option Int):Prop:=match e,o with
 |none,none=>True
 |some e,some i=>PEd X sd e (.val<|.int i)
 |_,_=>False
theorem qG{eo:Option Expr}{o:Option Int}(h:POd X sd eo o):∃t:TO,PO X eo t/\∀ (σ:St) (F H:Hp),StF X.K X.B₀ F H σ sd->∀Q:Option Int->Hp->Prop,(∀F' H',StF X.K X.B₀ F' H' σ sd->Same F F'->Q o H')->t σ H Q:=by
 cases eo with
 |none=>
  cases o with
  |none=>exact⟨_,aKd,λσ F H S Q k=>k F H S<|Same.refl _⟩
  |some i=>exact h.elim
 |some e=>
  cases o with
  |none=>exact h.elim
  |some i=>have h:PEd X sd e (.val<|.int i):=h;refine⟨_,aLn gP,λσ F H S Q k=>(h σ F H S).imp λv H1 ⟨F1,S1,s1,q1⟩=> ?_⟩;simp only[ResOk,Rep] at q1;exact⟨i,q1,k F1 H1 S1 s1⟩
theorem aIU{lo hi:Option Expr}{ol oh:Option Int}{p2:Pos}(ha:PEd X sd a (.bor ds))(hl:POd X sd lo ol)(hh:POd X sd hi oh):PEd X sd (.Subscript a (.Slice lo hi none p2) pos) (.own<|cutD ds ol oh):=.mk λσ F H S=>by obtain⟨tl,pl,kl⟩:=qG hl;obtain⟨th,ph,kh⟩:=qG hh;refine(xN aET gP pl ph).to<|(ha σ F H S).imp λv H1 ⟨F1,S1,s1,q1⟩=>kl σ F1 H1 S1 _ λF2 H2 S2 s2=>kh σ F2 H2 S2 _ λF3 H3 S3 s3=> ?_;obtain⟨l,xs,rfl,hl',rl,_⟩:=ResOk.keep (r:=.bor ds) trivial q1 S3<|s2.trans s3;refine⟨l,xs,rfl,.of hl',λp hp=> ?_⟩;obtain⟨S4,fp,no⟩:=S3.layO (xs:=xG xs ol oh) hp;exact⟨F3,S4,(s1.trans s2).trans s3,p,_,rfl,fp,cG,rl.cut ol oh,no⟩
theorem aBB{lo hi:Option Expr}{ol oh:Option Int}{p2:Pos}(ha:PEd X sd a (.val<|.tup ds))(hl:POd X sd lo ol)(hh:POd X sd hi oh)(hn:¬ (HT.sIx ds.length 0 ol=0/\HT.sIx ds.length ds.length oh=ds.length)):PEd X sd (.Subscript a (.Slice lo hi none p2) pos) (.val (.tup<|cutD ds ol oh)):=.mk λσ F H S=>by obtain⟨tl,pl,kl⟩:=qG hl;obtain⟨th,ph,kh⟩:=qG hh;refine(xN aOh gP pl ph).to<|(ha σ F H S).imp λv H1 ⟨F1,S1,s1,q1⟩=>kl σ F1 H1 S1 _ λF2 H2 S2 s2=>kh σ F2 H2 S2 _ λF3 H3 S3 s3=> ?_;have q1:=Rep.mono (s2.trans s3) q1;simp only[Rep] at q1;obtain⟨l,xs,rfl,hl',rl⟩:=q1;refine⟨l,xs,rfl,.of<|S3.sub _ _ hl',by rw[rl.len];exact hn,λp hp=> ?_⟩;obtain⟨S4,s4⟩:=S3.lay (o:=.tup<|xG xs ol oh) hp trivial;refine⟨_,S4,((s1.trans s2).trans s3).trans s4, ?_⟩;simp only[ResOk,Rep];exact⟨p,_,rfl,cG,(rl.cut ol oh).mono s4⟩
theorem aNy{i:Int}(ha:PEd X sd a (.val<|.int i)):PEd X sd (.UnaryOp .USub a pos) (.val<|.int (-i)):=.mk λσ F H S=>
 (aPo aMR gP).to ((ha σ F H S).imp fun v H1 ⟨F1,S1,s1,q1⟩=>by
  simp only[ResOk,Rep] at q1
  exact⟨i,q1,F1,S1,s1,by simp only[ResOk,Rep]⟩)
theorem gO{body:List BN}{P:Hp->Hp->Prop}(Sd:Nat->List Slot->Prop)(hi:PId X sd P tg iter ds)(h0:∃sd0,Le sd sd0/\Sd 0 sd0)
  (hb:∀k d sdk,ds[k]? =some d->Sd k sdk->∃sdt,PGd X sdk tg d sdt/\PSd X sdt body {E with nx:=λsd'=>∃sd2,Le sd' sd2/\Sd (k+1) sd2,ct:=λsd'=>∃sd2,Le sd' sd2/\Sd (k+1) sd2,bk:=E.nx}) (hE:∀sdn,Sd ds.length sdn->E.nx sdn) (hP:∀k sdk σ F H,Sd k sdk->StF X.K X.B₀ F H σ sdk->P F H:=by intros;trivial)
  (hc:X.calm=true:=by rfl) (hp:PassesOwn (AG X.prog X.w) X.A X.env X.xe:=by exact PassesOwn.never) (hs:∀x,BB iter X.env x=pure x:=by intro _;rfl):PSd1 X sd (.For tg iter body [] pos) E:=.mk λσ F H S=>
 (aIJ hp hc aQu aOG uO hs).to (by
  intro pins s I;refine thn (hi σ F H S pins s I) λv s1 h1=>thn h1 λitv s2 h2=> ?_
  obtain⟨it,fp,tn,J,H2,e,I2,T,st2,f2,F1,S1,s1',itd⟩:=h2;refine⟨it,fp,tn,J,H2,e,I2,T,st2,f2, ?_⟩;obtain⟨sd0,le0,q0⟩:=h0;refine⟨λi m σ' H'=>m=ds.length-i/\i<=ds.length/\∃sdi F',StF X.K X.B₀ F' H' σ' sdi/\Same F1 F'/\Sd i sdi,⟨ds.length,by simp,bW _,sd0,F1,S1.le le0,Same.refl _,q0⟩, ?_⟩;rintro i m σ' H' ⟨rfl,hil,sdi,F',S',s',qi⟩;obtain⟨g1,g2,g3⟩:=itd F' H' s' S'.sub S'.smp (hP _ _ _ _ _ qi S') i
  by_cases hlt:i<ds.length
  ·refine .inr ⟨g1 hlt,λσ2 H2=>∃sd2 F2,StF X.K X.B₀ F2 H2 σ2 sd2/\Same F1 F2/\Sd (i+1) sd2,λσ2 H2 ⟨sd2,F2,S2,s2,q2⟩=>⟨ds.length-(i+1),by omega,rfl,hlt,sd2,F2,S2,s2,q2⟩,λx H2 y=> ?_⟩;have hd:ds[i]? =some ds[i]:=by simp[hlt]
   obtain⟨F2,s2,rp,up⟩:=g3 x H2 ds[i] hd y;obtain⟨sdt,hg,hbb⟩:=hb i _ sdi hd qi;refine(hg σ' F2 H2 x (up _ _ _ S') rp).imp λσ3 H3 ⟨F3,S3,s3⟩=> ?_
   have base:Same F1 F3:=(s'.trans s2).trans s3;refine(hbb σ3 F3 H3 S3).imp ?_ ?_ ?_ ?_
   ·rintro σ4 H4 ⟨sd4,F4,S4,s4,sd5,le,q5⟩;exact⟨sd5,F4,S4.le le,base.trans s4,q5⟩
   ·exact λv H4 q=>q
   ·rintro σ4 H4 ⟨sd4,F4,S4,s4,q⟩;exact⟨sd4,F4,S4,(s1'.trans base).trans s4,q⟩
   ·rintro σ4 H4 ⟨sd4,F4,S4,s4,sd5,le,q5⟩;exact⟨sd5,F4,S4.le le,base.trans s4,q5⟩
  ·have e:i=ds.length:=by omega
   subst e
   exact .inl ⟨g2 (aP _),sdi,F',S',s1'.trans s',hE sdi qi⟩)
noncomputable def iW(m:Nat):Nat->List (List Int)
 |0=>[[]]
 |k+1=>(iW m k).flatMap λs=>(bO m).map λ(w:Nat)=>s++[(w:Int)]
noncomputable def bF(s:List Int):D:=.tup<|s.map D.int
noncomputable def uV(m:Int)(ws:List Int):Int:=ws.foldl (λn w=>n*m+w) 0
noncomputable def aON(b k:Nat):Bool:=let L:=iW (2^b) k;L.length==2^(b*k)&&(bO L.length).all λi=>let f:=L.getD i [];f.length==k&&f.all (λw=>decide (0<=w)&&decide (w<2^b))&&decide (uV (2^b) f=i)&&(i==0||HT.lexLt (L.getD (i-1) []) f)
theorem aMe:∀p∈bR,aON p.1.toNat p.2.toNat=true:=by decide+kernel
theorem xQ:∀p∈bR,1<=p.1/\p.1<=6/\1<=p.2/\p.2<=6/\p.1*p.2<=6:=by decide+kernel
theorem aEN{m:Nat}:∀ {k:Nat}{ws:List Int},ws.length=k->(∀w∈ws,0<=w/\w<m)->ws∈iW m k
 |0,ws,h,_=>by have:ws=[]:=List.length_eq_zero_iff.mp h;subst this;simp[iW]
 |k+1,ws,h,hw=>by
  have hne:ws≠[]:=by intro z;subst z;simp at h
  have e:ws=ws.dropLast++[ws.getLast hne]:=(mH hne).symm;have hl:=hw (ws.getLast hne)<|List.getLast_mem hne;have ih:ws.dropLast∈iW m k:=aEN (by rw[List.length_dropLast,h];rfl) λw hm=>hw w<|List.dropLast_subset _ hm
  show ws∈(iW m k).flatMap λs=>(bO m).map λ(w:Nat)=>s++[(w:Int)]
  refine eI.mpr ⟨_,ih,aE.mpr ⟨(ws.getLast hne).toNat,bP.mpr<|by omega, ?_⟩⟩;have:(((ws.getLast hne).toNat:Nat):Int)=ws.getLast hne:=by omega
  rw[this];exact e.symm
structure aMs(b k:Nat):Prop where
 len:(iW (2^b) k).length=2^(b*k)
 at_:∀i,i<2^(b*k)->((iW (2^b) k).getD i []).length=k/\(∀w∈(iW (2^b) k).getD i [],0<=w/\w<2^b)/\uV (2^b) ((iW (2^b) k).getD i [])=i/\(i=0\/HT.lexLt ((iW (2^b) k).getD (i-1) []) ((iW (2^b) k).getD i [])=true)
theorem aIO{b k:Nat}(h:aON b k=true):aMs b k:=by unfold aON at h;simp only[bC,beq_iff_eq,bZ,bP,decide_eq_true_eq,qD] at h;obtain⟨h1,h2⟩:=h;refine⟨h1,λi hi=> ?_⟩;obtain⟨⟨⟨a,b⟩,c⟩,d⟩:=h2 i (by omega);exact⟨a,b,c,d⟩
theorem aNa{b k:Nat}(h:aMs b k){ws:List Int}(hl:ws.length=k)(hw:∀w∈ws,0<=w/\w<((2^b:Nat):Int)):0<=uV (2^b) ws/\(uV (2^b) ws).toNat<2^(b*k)/\(iW (2^b) k).getD (uV (2^b) ws).toNat []=ws:=by
 have hm:=aEN hl hw;obtain⟨i,hi,e⟩:=List.mem_iff_getElem.mp hm;have e':(iW (2^b) k).getD i []=ws:=by simp[bX,hi,e]
 rw[h.len] at hi;have hn:=(h.at_ i hi).2.2.1;rw[e'] at hn;rw[hn];refine⟨by omega,by simpa using hi, ?_⟩;simpa using e'
theorem aBL:∀ (ws vs:List Int),lD (ws.map D.int) (vs.map D.int)=decide (ws=vs)
 |[],[]=>by simp[lD]
 |[],_::_=>by simp[lD]
 |_::_,[]=>by simp[lD]
 |w::ws,v::vs=>by
  simp only[aZ,lD,deq,aBL ws vs]
  by_cases h1:w=v<;>by_cases h2:ws=vs<;>simp[h1,h2]
theorem xL(ws vs:List Int):deq (bF ws) (bF vs)=decide (ws=vs):=by unfold bF;simp only[deq,aBL]
theorem aBM:∀ws:List Int,plL (ws.map D.int)=true
 |[]=>rfl
 |w::ws=>by simp[plL,pl,aBM ws]
theorem zZ:∀ws:List Int,jT (ws.map D.int)=0
 |[]=>rfl
 |w::ws=>by simp[jT,dep,zZ ws]
theorem tN(ws:List Int):pl (bF ws)=true:=by simp[bF,pl,aBM]
theorem sC(ws:List Int):dep (bF ws)=1:=by simp[bF,dep,zZ]
theorem oB:∀L:List (List Int),plL (L.map bF)=true
 |[]=>rfl
 |w::ws=>by simp[plL,tN,oB ws]
theorem nO:∀L:List (List Int),jT (L.map bF)<=1
 |[]=>by simp[jT]
 |w::ws=>by have:=nO ws;simp only[aZ,jT,sC];omega
theorem aCl:∀ (L M:List (List Int)),lD (L.map bF) (M.map bF)=decide (L=M)
 |[],[]=>by simp[lD]
 |[],_::_=>by simp[lD]
 |_::_,[]=>by simp[lD]
 |w::ws,v::vs=>by
  simp only[aZ,lD,xL,aCl ws vs]
  by_cases h1:w=v<;>by_cases h2:ws=vs<;>simp[h1,h2]
theorem aJy{i j:Int}(h1: -(2^64)<j)(h2:j<2^64):IntMulOk i j:=.of_right<|intBits_le_64 h1 h2
theorem pW{L:List (List Int)}{k:Nat}(h:(L.map bF)[k]? =some d):k<L.length/\d=bF (L.getD k []):=by
 rw[bA] at h;cases e:L[k]? with
 |none=>rw[e] at h;cases h
 |some z=>rw[e] at h;refine⟨(aK.mp e).1, ?_⟩;rw[<-cA.inj h,bX,e];rfl
theorem aEQ{g:Str}{ad:BJ}{xs:List V}{p:Pos}(hg:Gl X g)(hm:X.mg g=some (.ref ad))(hq:∀H,SqT X.K H ad xs)(ha:PEd X sd a (.val d))(hd:flt d=some v)(fv:pF v=true)(fx:xs.all pF=true)
  (hk:AT .In (.Name g p)=false:=by with_unfolding_all rfl) (hdb:(g==("__debug__":Str))=false:=by decide):PTd X sd (.Compare a [.In] [.Name g p] pos) (inV v xs):=.mk λσ F H S=>
 (vD aFX gP (aEs (v:= .ref ad) hg hm rfl hdb) hk).to ((ha σ F H S).imp fun x H1 ⟨F1,S1,s1,q1⟩=>by
  have e:=sQ hd q1;subst e
  exact⟨ad,xs,rfl,.inr (hq H1),fv,fx,_,rfl,rfl,F1,S1,s1⟩)
theorem aHf(i:Nat){elt:Expr}{ifs:List Expr}{scope:Scope}{N M:List Str}{cap:List (Option Nat)}{sc:Scope}{Tb:D->List Slot}{y:Str}{py spos:Pos}(p:D->Bool)(f:D->D)(ho:cQ sd=[])
  (hN:X.N.Nodup) (hi:X.N[i]? =some y) (hy:X.env.scope.names.lookup y=some .local)
  (hsw:Ag (.ListComp elt [⟨tg,iter,ifs,0⟩] scope pos) (some<|.Name y py) spos.line X.env=pure true)
  (hit:PId X sd PT0 tg iter ds) (hl:ds.length<=1000)
  (hsc:X.env.scope=sc) (hcn:qE scope sc=true) (hM:X.N=M) (hcap:nV N M scope sc cap=true) (hk:scope.kind=.function)
  (hg:∀cl C fp s H d,d∈ds->PGd (cxB X N scope cl C fp s H) (oA cap sd) tg d (Tb d))
  (hle:∀d,d∈ds->Le (Tb d) (oA cap sd))
  (ht:∀cl C fp s H d,d∈ds->(ifs=[]/\p d=true)\/∃c,ifs=[c]/\PTd (cxB X N scope cl C fp s H) (Tb d) c (p d))
  (he:∀cl C fp s H d,d∈ds->p d=true->PEd (cxB X N scope cl C fp s H) (Tb d) elt (.val<|f d))
  (hE:∀l,E.nx<|sd.set i (.own l<|(ds.filter p).map f))
  (hc:X.calm=true:=by rfl) (hs:∀x,BB iter X.env x=pure x:=by intro _;rfl):
  PSd1 X sd (.Assign [.Name y py] (.ListComp elt [⟨tg,iter,ifs,0⟩] scope pos) spos) E:=.mk λσ F H S=>by
 intro pins s I
 have nm:∀y∈scope.names,(y.2=NameKind.free->sc.names.lookup y.1=some NameKind.cell)/\(y.2=NameKind.local->scope.names.lookup y.1=some NameKind.local):=λy hy=>by have q:=bZ.mp hcn y hy;simp only[bC,qD,oP,beq_eq_false_iff_ne,ne_eq,beq_iff_eq] at q;exact⟨λe=>q.1.1.resolve_left λz=>z e,λe=>q.2.resolve_left λz=>z e⟩
 have fre:∀y∈scope.names,y.2=.free->∃c,X.env.cells.lookup y.1=some c:=λy hy e=>I.ok.has y.1 (.inl<|by show X.env.scope.names.lookup y.1=_;rw[hsc];exact(nm y hy).1 e)
 rw[exec_Assign_Name_used _ _ _ _ hsw];refine AA (wpAny_standAt<|AA ?_);show AI _ X.A (do let _ <-comprehension (.ListComp elt [⟨tg,iter,ifs,0⟩] scope pos) scope X.env _ (newList []) false (eval iter X.env) (some<|assign (.Name y py) X.env)) _ _ s;refine AA<|Ac (wpAny_comprehension_free (use:=some<|assign (.Name y py) X.env) (Q:=λ_ s'=>SP X pins (lft X F E) .next s') rfl hs (wM fre) hk (λy hy=>(nm y hy).2) ?_) (λ_ s' hq=>AB<|AB hq) λ_ _ e=>e;refine thn (hit σ F H S pins s I) λv s1 h1=>thn h1 λitv s2 h2=> ?_
 obtain⟨it,fp,tn,J,H2,e,I2,T,st2,f2,F1,S1,s1',itd⟩:=h2;subst e;have S1b:StF X.K H2 H2 H2 (yG cap σ) (oA cap sd):=⟨Same.refl _,Same.refl _,S1.smp,aAV (H':=H2) S1.slots S1.sub cap,by rw[rJ];exact eV⟩
 refine aBX (N:=N) (cap:=cap) (g:=λv σ2 H3 Q=>∀cl C,wG (cxB X N scope cl C fp s2 H2) tg v σ2 H3 Q) (tt:=λσ2 H3 Q=>∀cl C,aOs (cxB X N scope cl C fp s2 H2) ifs σ2 H3 Q) (te:=λσ2 H3 Q=>∀cl C,wE (cxB X N scope cl C fp s2 H2) elt σ2 H3 Q)
  hc hsc hcn (by rw[hM];exact hcap) hk I2 T st2 f2 (λcl C pi s3 σ3 H3 v u Q I3 ru q=>q cl C pi s3 u I3 ru) (λcl C pi s3 σ3 H3 Q I3 q=>q cl C pi s3 I3) (λcl C pi s3 σ3 H3 Q I3 q=>q cl C pi s3 I3)
  (λi m ys σb H3=>m=ds.length-i/\i<=ds.length/\∃Fb,StF X.K H2 Fb H3 σb (oA cap sd)/\RepL X.K Fb (((ds.take i).filter p).map f) ys) ds.length
  ⟨by simp,bW _,H2,S1b,by simpa using RepL.nil⟩ _ ?_
 rintro i' m ys σb H3 ⟨rfl,hil,Fb,Sb,rl⟩;have sF1:Same F1 Fb:=λb o g=>Sb.base _ _<|S1.sub _ _ g
 obtain⟨g1,g2,g3⟩:=itd Fb H3 sF1 Sb.sub Sb.smp trivial i'
 by_cases hlt:i'<ds.length
 ·have hd:ds[i']? =some ds[i']:=by simp[hlt]
  have hm:ds[i']∈ds:=eJ hlt
  have ylen:ys.length<=i':=by rw[rl.len,aA];exact cJ (aDp _ _) (by simp;omega)
  refine .inr ⟨g1 hlt,gQ<|by omega,λys' σ' H'=>∃Fb',StF X.K H2 Fb' H' σ' (oA cap sd)/\RepL X.K Fb' (((ds.take<|i'+1).filter p).map f) ys',λys' σ' H' ⟨Fb',Sb',rl'⟩=>⟨ds.length-(i'+1),by omega,rfl,hlt,Fb',Sb',rl'⟩,λx H4 y cl C=> ?_⟩;obtain⟨F4,s4,rp,up⟩:=g3 x H4 ds[i'] hd y;refine(hg cl C fp s2 H2 _ hm σb F4 H4 x (up _ _ _ Sb) rp).imp λσ5 H5 ⟨F5,S5,s5⟩ cl2 C2=> ?_
  have rl5:=rl.mono<|s4.trans s5
  have fin:∀ (b:Bool) (H6:Hp) (F6:Hp),b=p ds[i']->StF X.K H2 F6 H6 σ5 (Tb ds[i'])->Same F5 F6->if b=true then(∀cl C,wE (cxB X N scope cl C fp s2 H2) elt σ5 H6 λv H5=>∃Fb',StF X.K H2 Fb' H5 σ5 (oA cap sd)/\RepL X.K Fb' (((ds.take<|i'+1).filter p).map f) (ys++[v])) else ∃Fb',StF X.K H2 Fb' H6 σ5 (oA cap sd)/\RepL X.K Fb' (((ds.take<|i'+1).filter p).map f) ys:=λb H6 F6 eb S6 s6=>by
   rw[oK p hd,<-eb];cases b with
   |false=>exact aIj ⟨F6,S6.le<|hle _ hm,by simpa using rl5.mono s6⟩
   |true=>
    refine aIg λcl3 C3=>(he cl3 C3 fp s2 H2 _ hm eb.symm σ5 F6 H6 S6).imp λv H7 ⟨F7,S7,s7,q7⟩=>⟨F7,S7.le<|hle _ hm, ?_⟩
    simp only[if_true,aJ,aZ,fD];exact((rl5.mono s6).mono s7).app<|.one q7
  rcases ht cl2 C2 fp s2 H2 _ hm with⟨e1,e2⟩|⟨c,e1,q⟩
  ·subst e1;exact aCd (fin true H5 F5 e2.symm S5<|Same.refl _)
  ·subst e1;exact aCf<|(q σ5 F5 H5 S5).imp λb H6 ⟨eb,F6,S6,s6⟩=>fin b H6 F6 eb S6 s6
 ·have e:i'=ds.length:=by omega
  subst e;refine .inl ⟨g2<|aP _,λD C s' hD hC hDC h0 hL hcc hpp hst ⟨m',ns'⟩ J'=> ?_⟩;have fbD:Fb D=none:=Sb.sub.free hD
  have S9:StF X.K X.B₀ Fb (upd H3 D<|.lst ys) σ sd:=by
   refine⟨λb o g=>sF1 _ _<|S1.base _ _ g,λb o g=> ?_,λb o g=> ?_,S1.slots.mono sF1 λl hl=> ?_,S1.nd⟩
   ·rw[bV<|cS g fbD];exact Sb.sub _ _ g
   ·by_cases hb:b=D
    ·subst hb;rw[cG] at g;cases g;trivial
    ·rw[bV hb] at g;exact Sb.smp _ _ g
   ·rw[ho] at hl;cases hl
  have S10:=S9.setO i fbD cG rl (by rw[ho];simp);obtain⟨oC,esC,epC,hoC,rC⟩:=id ns';have nC:(upd H3 D<|.lst ys) C=none:=by rw[bV<|Ne.symm hDC];exact hC
  have Jp:Inv X (pins++[(C,oC)]) σ (upd H3 D<|.lst ys) s':=J'.pins_of λq hq=>(aU.mp hq).elim (λz=>J'.pin q<|aM _ z) λz=>by
   have z:q=(C,oC):=by simpa using z
   subst z
   exact ⟨hoC,nC,hL,fun y=>hst (by
    rcases J'.ok.stk with e|⟨e,_⟩
    ·rw[e];exact y
    ·rw[e];unfold frs;rw[mU];cases X.env.frame with
     |none=>exact y
     |some fr=>exact aI _ y),λv z=>by rw[rC.1] at z;cases z⟩
  show AI _ X.A (assign (.Name y py) X.env<|.ref D) _ _ _;refine wpAny_assign_Name (yH (v:=.ref D) (u:=.ref D) Jp hN hi (.inl hy) rfl (λs3 J3=> ?_)<|.inr hy);have pC:=J3.pin (C,oC) (aM _<|aM _ aH);refine⟨m',⟨oC,esC,epC,pC.1,rC⟩,λh' sb=> ?_⟩;have J4:Inv X pins _ (upd H3 D<|.lst ys) s3:=J3.pins_of λq hq=>J3.pin q (aM _<|bN _ hq)
  have J5:Inv X pins _ (upd H3 D<|.lst ys) {s3 with heap:=h',toks:=s3.toks}:=J4.turned (it:=C) (λb o hb g=>sb.extBut b o hb g) nC hL (.inr h0) hcc hpp;refine⟨_,_,J5,_,Fb,S10,s1'.trans sF1, ?_⟩;have hE':=hE D;simpa using hE'
def stepNames:List Str:=["and","or","xor","add","take","copy","put","not","up","down"]
noncomputable def nm(k:Nat):Str:=stepNames.getD k "down"
noncomputable def jF(k:Nat)(i j n:Int):D:=if k<6 then .tup [.str<|nm k,.int i,.int j] else if k=6 then .tup [.str<|nm k,.int i,.int n] else .tup [.str<|nm k,.int i]
noncomputable def aMf(k:Nat)(m a:Int):Int:=match k with
 |7=>m-1-a
 |8=>a*2%m
 |_=>a / 2
noncomputable def aGF(k:Nat)(m a c:Int):Int:=match k with
 |0=>Builtin.bitAnd a c
 |1=>Builtin.bitOr a c
 |2=>Builtin.bitXor a c
 |3=>(a+c)%m
 |4=>(a-c)%m
 |_=>c
noncomputable def newW(k:Nat)(m a c n:Int):Int:=if k=6 then n else if 7<=k then aMf k m a else aGF k m a c
theorem aDW:∀k,k<10->decide (V.str (nm k)=V.str "and")=decide (k=0):=by decide+kernel
theorem aJO:∀k,k<10->decide (V.str (nm k)=V.str "or")=decide (k=1):=by decide+kernel
theorem aDz:∀k,k<10->decide (V.str (nm k)=V.str "xor")=decide (k=2):=by decide+kernel
theorem aDI:∀k,k<10->decide (V.str (nm k)=V.str "add")=decide (k=3):=by decide+kernel
theorem aAP:∀k,k<10->decide (V.str (nm k)=V.str "take")=decide (k=4):=by decide+kernel
theorem uD:∀k,k<10->decide (V.str (nm k)=V.str "put")=decide (k=6):=by decide+kernel
theorem aBI:∀k,k<10->decide (V.str (nm k)=V.str "not")=decide (k=7):=by decide+kernel
theorem aGH:∀k,k<10->decide (V.str (nm k)=V.str "up")=decide (k=8):=by decide+kernel
theorem aES:∀k,k<10->inV (V.str<|nm k) [V.str "not",V.str "up",V.str "down"]=decide (7<=k):=by decide+kernel
theorem aHa:∀b,b<7->∀a,a<2^b->∀c,c<2^b->∀k,k<3->0<=aGF k 0 ((a:Nat):Int) ((c:Nat):Int)/\aGF k 0 ((a:Nat):Int) ((c:Nat):Int)<((2^b:Nat):Int):=by decide+kernel
theorem aPO{k:Nat}(h:k<3)(m a c:Int):aGF k m a c=aGF k 0 a c:=by
 match k,h with
 |0,_=>rfl
 |1,_=>rfl
 |2,_=>rfl
theorem aGV{b k:Nat}{a c n:Int}(hb:b<7)(hk:k<10)(ha:0<=a/\a<((2^b:Nat):Int))(hc:0<=c/\c<((2^b:Nat):Int))(hn:0<=n/\n<((2^b:Nat):Int)):0<=newW k ((2^b:Nat):Int) a c n/\newW k ((2^b:Nat):Int) a c n<((2^b:Nat):Int):=by
 have ea:a=((a.toNat:Nat):Int):=by omega
 have ec:c=((c.toNat:Nat):Int):=by omega
 have la:a.toNat<2^b:=by have:=ha.2;generalize 2^b=q at *;omega
 have lc:c.toNat<2^b:=by have:=hc.2;generalize 2^b=q at *;omega
 have tab:∀k,k<3->0<=aGF k ((2^b:Nat):Int) a c/\aGF k ((2^b:Nat):Int) a c<((2^b:Nat):Int):=λk hk=>by rw[aPO hk,ea,ec];exact aHa b hb _ la _ lc k hk
 have mpos:(0:Int)<((2^b:Nat):Int):=by omega
 match k,hk with
 |0,_=>exact tab 0<|by decide
 |1,_=>exact tab 1<|by decide
 |2,_=>exact tab 2<|by decide
 |3,_=>exact⟨dM _<|lM mpos,cK _ mpos⟩
 |4,_=>exact⟨dM _<|lM mpos,cK _ mpos⟩
 |5,_=>exact hc
 |6,_=>exact hn
 |7,_=>show 0<=((2^b:Nat):Int)-1-a/\((2^b:Nat):Int)-1-a<((2^b:Nat):Int);generalize ((2^b:Nat):Int)=q at *;omega
 |8,_=>exact⟨dM _<|lM mpos,cK _ mpos⟩
 |9,_=>show 0<=a / 2/\a / 2<((2^b:Nat):Int);generalize ((2^b:Nat):Int)=q at *;omega
theorem aFI{op op':CmpOp}{g g':Int->Int->Bool}{i j l:Int}(ho:OpR X (AS op) (rI0 λi j=>.bl<|g i j))(ho':OpR X (AS op') (rI0 λi j=>.bl<|g' i j))(ha:PEd X sd a (.val<|.int i))(hb:PEd X sd b (.val<|.int j))(hc:PEd X sd c (.val<|.int l))(hm:lastMarks [op,op'] [b,c]=false:=by with_unfolding_all rfl):PEd X sd (.Compare a [op,op'] [b,c] pos) (.val (.bl<|g i j&&g' j l)):=.mk λσ F H S=>
 (aHA ho ho' gP gP gP hm).to ((ha σ F H S).imp fun v H1 ⟨F1,S1,s1,q1⟩=>(hb σ F1 H1 S1).imp fun u H2 ⟨F2,S2,s2,q2⟩=>by
  simp only[ResOk,Rep] at q1 q2;refine⟨i,j,q1,q2,g i j,rfl, ?_⟩;cases hk:g i j with
  |true=>
   rw[if_pos rfl];refine(hc σ F2 H2 S2).imp λw H3 ⟨F3,S3,s3,q3⟩=> ?_
   simp only[ResOk,Rep] at q3;exact⟨j,l,q2,q3,F3,S3,s1.trans<|s2.trans s3,by simp only[ResOk,Rep,iM]⟩
  |false=>
   rw[if_neg<|by decide]
   exact⟨F2,S2,s1.trans s2,by simp only[ResOk,Rep,lF]⟩)
theorem aDV{i j:Int}(ha:PEd X sd a (.val<|.int i))(hb:PEd X sd b (.val<|.int j)):PEd X sd (.Compare a [.Eq] [b] pos) (.val<|.bl (decide<|i=j)):=
 rR aJI ha hb trivial (iI _) λσ F H v u Q S q1 q2 k=>by
  simp only[ResOk,Rep] at q1 q2;subst q1;subst q2;refine⟨rfl, ?_⟩;have e:decide (V.int i=V.int j)=decide (i=j):=by rw[aAJ,aDr]
  rw[e];exact k F H S<|Same.refl _
variable {o:Expr}
theorem PEd.ic{i j:Int}(h:PEd X sd e (.val<|.int i))(q:i=j):PEd X sd e (.val<|.int j):=q▸h
mutual
noncomputable def noL:D->Bool
 |.tup ds=>aLC ds
 |.lst _=>false
 |.scr _=>false
 |.dic=>false
 |.dki _ _=>false
 |.any _=>false
 |_=>true
noncomputable def aLC:List D->Bool
 |[]=>true
 |d::ds=>noL d&&aLC ds
end
noncomputable def del(F:Hp)(l:BJ):Hp:=λb=>if b=l then none else F b
theorem xA{l b:BJ}(h:b≠l):del F l b=F b:=by unfold del;rw[if_neg h]
theorem aCk{l:BJ}:del F l l=none:=by unfold del;rw[if_pos rfl]
mutual
theorem Rep.del{K:aB}{F:Hp}{l:BJ}{xs:List V}(hl:F l=some (.lst xs)):∀ {d:D}{v:V},noL d=true->Rep K F d v->Rep K (del F l) d v
 |.non,_,_,r=>by simpa only[Rep] using r
 |.bl _,_,_,r=>by simpa only[Rep] using r
 |.int _,_,_,r=>by simpa only[Rep] using r
 |.str _,_,_,r=>by simpa only[Rep] using r
 |.tup ds,v,h,r=>by
  simp only[Rep] at r ⊢;obtain⟨a,ys,e,q,rl⟩:=r
  have ne:a≠l:=λz=>by rw[z,hl] at q;cases q
  exact⟨a,ys,e,by rw[xA ne];exact q,RepL.del hl (by simpa only[noL] using h) rl⟩
 |.lst _,_,h,_=>by simp[noL] at h
 |.dic,_,h,_=>by simp[noL] at h
 |.dki _ _,_,h,_=>by simp[noL] at h
 |.any _,_,h,_=>by simp[noL] at h
 |.scr _,_,h,_=>by simp[noL] at h
theorem RepL.del{K:aB}{F:Hp}{l:BJ}{xs:List V}(hl:F l=some (.lst xs)):∀ {ds:List D}{ys:List V},aLC ds=true->RepL K F ds ys->RepL K (del F l) ds ys
 |[],_,_,r=>by simpa only[RepL] using r
 |d::ds,ys,h,r=>by simp only[aLC,bC] at h;obtain⟨y,zs,rfl,a,rl⟩:=r.uncons;exact .cons (Rep.del hl h.1 a)<|RepL.del hl h.2 rl
end
theorem aBO{K:aB}{F H:Hp}:∀ {sd:List Slot}{σ:St},σ.length=sd.length->(∀ (k:Nat) (z:Slot),sd[k]? =some z->∃o,σ[k]? =some o/\jB K F H z o)->SlotsOk K F H sd σ
 |[],[],_,_=>rfl
 |z::zs,o::r,hl,h=>by
  obtain⟨o',e,q⟩:=h 0 z rfl;have:o=o':=by simpa using e
  subst this
  exact ⟨o,r,rfl,q,aBO (by simpa using hl) fun k z hz=>by
   obtain⟨o',e,q⟩:=h (k+1) z (by simpa using hz)
   exact⟨o',by simpa using e,q⟩⟩
 |[],_::_,hl,_=>by simp at hl
 |_::_,[],hl,_=>by simp at hl
noncomputable def okS:Slot->Bool
 |.own _ ds=>aLC ds
 |.od _ _ ds=>aLC ds
 |.ox _ _=>false
 |_=>true
def Oth(sd:List Slot)(i:Nat):Prop:=∀ (k:Nat) (z:Slot),k≠i->sd[k]? =some z->okS z=true
variable {i:Nat}{l:BJ}{xs:List V}
theorem StF.lend(S:StF K H₀ F H σ sd)(hs:sd[i]? =some (.own l ds))(hx:H l=some (.lst xs)):StF K H₀ (upd F l<|.lst xs) H σ (sd.set i (.val<|.lst ds)):=by obtain⟨o,h1,h2,n,ys,q,rl⟩:=S.slots.get hs;rw[hx] at q;cases q;have S0:=S.le<|iO sd i;obtain⟨S1,s1⟩:=S0.freeze hx n<|qH S.nd hs;have S2:=S1.set (d:=.lst ds) (v:=.ref l) i (by simp only[Rep];exact⟨l,xs,rfl,cG,rl.mono s1⟩);rw[kS,mM<|by rw[h1,h2]] at S2;exact S2
theorem StF.back(S:StF K H₀ F H σ sd)(hs:sd[i]? =some (.own l ds))(hx:H l=some (.lst xs))(ho:Oth sd i)(S':StF K H₀ F' H' σ (sd.set i (.val<|.lst ds)))(s:Same (upd F l<|.lst xs) F'):StF K H₀ (del F' l) H' σ sd/\Same F (del F' l)/\F' l=some (.lst xs):=by
 obtain⟨o,h1,h2,n,ys,q,rl⟩:=S.slots.get hs;rw[hx] at q;cases q;have fl:F' l=some (.lst xs):=s _ _ cG
 have sF:Same F (del F' l):=λb u e=>by have ne:b≠l:=cS e n;rw[xA ne];exact s _ _ (by rw[bV ne];exact e)
 refine⟨⟨λb u e=>sF _ _<|S.base _ _ e,λb u e=> ?_,S'.smp, ?_,S.nd⟩,sF,fl⟩
 ·by_cases h:b=l
  ·subst h;rw[aCk] at e;cases e
  ·rw[xA h] at e;exact S'.sub _ _ e
 ·refine aBO S.slots.len λk z hz=> ?_
  by_cases hk:k=i
  ·subst hk;rw[hs] at hz;cases hz;exact⟨o,h1,h2,aCk,xs,S'.sub _ _ fl,rl.mono sF⟩
  ·obtain⟨o1,g1,g2⟩:=S.slots.get hz;obtain⟨o2,g3,g4⟩:=S'.slots.get (i:=k) (z:=z) (by rw[qY<|Ne.symm hk];exact hz);rw[g1] at g3;cases g3;refine⟨o1,g1, ?_⟩;cases z with
   |un=>trivial
   |val d=>obtain⟨v,e,r⟩:=g2;exact⟨v,e,r.mono sF⟩
   |gh d G=>obtain⟨v,e,r,g⟩:=g2;exact⟨v,e,r.mono sF,λF2 s2=>g F2<|sF.trans s2⟩
   |own l' ds'=>
    obtain⟨e,n',ys,q',rl'⟩:=g4
    have ne:l'≠l:=λe2=>by rw[e2,fl] at n';cases n'
    exact⟨e,by rw[xA ne];exact n',ys,q',RepL.del fl (ho k _ hk hz) rl'⟩
   |od l' ks ds'=>
    obtain⟨e,n',ys,q',ln,rl'⟩:=g4
    have ne:l'≠l:=λe2=>by rw[e2,fl] at n';cases n'
    exact⟨e,by rw[xA ne];exact n',ys,q',ln,RepL.del fl (ho k _ hk hz) rl'⟩
   |ox ls G=>exact absurd (ho k _ hk hz) (by simp[okS])
theorem PTd.lend(i:Nat){k:Bool}(hs:sd[i]? =some (.own l ds))(ho:Oth sd i)(h:PTd X (sd.set i (.val<|.lst ds)) e k):PTd X sd e k:=.mk λσ F H S=>by
 obtain⟨o,h1,h2,n,xs,q,rl⟩:=S.slots.get hs;refine(h σ _ H<|S.lend hs q).imp λv H' ⟨e,F',S',s'⟩=> ?_
 obtain⟨S2,s2,fl⟩:=S.back hs q ho S' s';exact⟨e,del F' l,S2,s2⟩
theorem PTd.cast{k k':Bool}(h:PTd X sd e k)(q:k=k'):PTd X sd e k':=q▸h
noncomputable def aOH:List Slot->Nat->Bool
 |[],_=>true
 |_::zs,0=>zs.all okS
 |z::zs,i+1=>okS z&&aOH zs i
theorem aLU:∀ {sd:List Slot}{i:Nat},aOH sd i=true->Oth sd i
 |[],_,_,k,y,_,hz=>by simp at hz
 |z::zs,0,h,k,y,hk,hz=>by
  cases k with
  |zero=>exact absurd rfl hk
  |succ k=>exact bZ.mp (show zs.all okS=true from h) _ (bD<|by simpa using hz)
 |z::zs,i+1,h,k,y,hk,hz=>by
  have h':(okS z&&aOH zs i)=true:=h;rw[bC] at h';cases k with
  |zero=>
   have:z=y:=by simpa using hz
   subst this;exact h'.1
  |succ k=>exact aLU h'.2 k y (λq=>hk<|by rw[q]) (by simpa using hz)
theorem aHd(i j:Nat){x y:Str}{p q:Pos}(hs:sd[j]? =some (.own l ds))(hN:X.N.Nodup)(hi:X.N[i]? =some x)(hx:Loc X.env.scope x)(hy:PE X (.Name y q) (mW j))(hE:E.nx ((sd.set j .un).set i<|.own l ds))(hsw:Ag (.Name y q) (some<|.Name x p) pos.line X.env=pure false:=by rfl)
  (hf:X.fn x=true\/X.env.scope.names.lookup x=some .local:=by first|exact .inl rfl|exact .inr rfl|assumption):PSd1 X sd (.Assign [.Name x p] (.Name y q) pos) E:=.mk λσ F H S=>
 (uI hN hi hx hy hsw hf).to (by
  obtain⟨o,h1,h2,n,xs,g,rl⟩:=S.slots.get hs
  exact⟨.ref l,by rw[h1,h2],_,F,(S.le (iO sd j)).setO i n g rl (qH S.nd hs),Same.refl _,hE⟩)
theorem aFY:lY X (.type "int") (λxs H Q=>∃k,xs=[.bl k]/\Q (.int (if k then 1 else 0)) H):=by intro pins s σ H xs us Q I r h;obtain⟨k,rfl,q⟩:=h;obtain⟨u,rfl,ru⟩:=nN r;cases(show u=Value.bool k from ru);exact call_int_bool ⟨.int _,H,I.kept λb o g=>g,⟨_,rfl⟩,q⟩
theorem aKh{p:Pos}{k:Bool}(hg:Gl X "int")(hm:X.mg "int"=none)(ha:PEd X sd e (.val<|.bl k))(hst:AF [e] X.env=(false,eval e X.env)::AF [] X.env:=by rfl):PEd X sd (.Call (.Name "int" p) [e] [] pos) (.val<|.int (if k then 1 else 0)):=
 tV (he:=hst) aFY hg hm PyProof.Rows.boot_int (aC ha aO trivial hst) λσ F H vs Q S q kk=>by
  cases q with
  |cons q1 q2=>cases q2;simp only[ResOk,Rep] at q1;subst q1;exact⟨k,rfl,kk _ F H S (Same.refl _)<|by simp only[ResOk,Rep]⟩
theorem aNG{ns:List Int}{lo hi:Option Expr}{ol oh:Option Int}{p2:Pos}(ha:PEd X sd a (.val<|.scr ns))(hl:POd X sd lo ol)(hh:POd X sd hi oh):PEd X sd (.Subscript a (.Slice lo hi none p2) pos) (.own<|DL.cutD (ns.map D.int) ol oh):=.mk λσ F H S=>by
 obtain⟨tl,pl,kl⟩:=qG hl;obtain⟨th,ph,kh⟩:=qG hh;refine(xN aET gP pl ph).to<|(ha σ F H S).imp λv H1 ⟨F1,S1,s1,q1⟩=>kl σ F1 H1 S1 _ λF2 H2 S2 s2=>kh σ F2 H2 S2 _ λF3 H3 S3 s3=> ?_;have q1:=Rep.mono (s2.trans<|s3.trans S3.sub) q1;simp only[Rep] at q1;obtain⟨l,rfl,hl'⟩:=q1;refine⟨l,_,rfl,hl',λp hp=> ?_⟩;obtain⟨S4,fp,no⟩:=S3.layO (xs:=xG (ns.map V.int) ol oh) hp
 have rl:RepL X.K F3 (ns.map D.int) (ns.map V.int):=by
  have g:∀l:List Int,RepL X.K F3 (l.map D.int) (l.map V.int):=λl=>by
   induction l with
   |nil=>exact .nil
   |cons k l ih=>exact .cons (by simp only[Rep]) ih
  exact g ns
 exact⟨F3,S4,(s1.trans s2).trans s3,p,_,rfl,fp,cG,rl.cut ol oh,no⟩
theorem aFD(hc:X.calm=true):lY X (.builtin "sum") (λxs H Q=>∃ (a:BJ) (ns:List Int),xs=[.ref a]/\SqL X.K H a (ns.map V.int)/\Q (.int<|preSum (λi=>ns.getD i 0) ns.length) H):=by
 intro pins s σ H xs us Q I r h;obtain⟨a,ns,rfl,ha,q⟩:=h;obtain⟨u,rfl,ru⟩:=nN r;cases ru;obtain⟨its,rv,p,hz⟩:=I.list ha;have hl:=rv.length;rw[aA] at hl;have isl:s.heap.IsList a its.toArray:=p.isList;have alt:a<s.heap.objs.size:=by obtain⟨o,ho,_⟩:=isl;exact aS ho
 refine call_sum_walkAnyS<|At isl ?_;refine⟨s.heap.objs.size,_,_,_,its.toArray.size,_,_,λi=>ns.getD i 0,rfl,(Walks.list (A:=X.A.in1) (I.ok.hd hc) s.heap.objs.size a (bS alt) its.toArray).toS,⟨⟨_,bG _ rfl,rfl,rfl⟩,isl.push _⟩,λb hb=> ?_,λi v hv=>(aKB rv<|by simpa using hv).2,λs' t' hm=> ?_⟩
 ·show b<(s.heap.push _).objs.size;rw[size_push']
  rcases aW.mp hb with e|hb
  ·rw[e];exact jW _
  ·have e:b=a:=by simpa using hb
   rw[e];exact oS alt
 ·rw[Moved.eq_with hm];have sz:its.toArray.size=ns.length:=by rw[aV,hl]
  rw[sz];refine⟨.int _,H,I.kept λb o g=>hm.heap b o (λhI=> ?_)<|aD _ g,⟨_,rfl⟩,q⟩;have e:b=s.heap.objs.size:=by simpa using hI
  exact absurd (aS g) (by rw[e];exact dU _)
theorem aEw{p:Pos}{ns:List Int}(hg:Gl X "sum")(hm:X.mg "sum"=none)(ha:PEd X sd e (.bor<|ns.map D.int))(hc:X.calm=true:=by rfl)(hst:AF [e] X.env=(false,eval e X.env)::AF [] X.env:=by rfl):PEd X sd (.Call (.Name "sum" p) [e] [] pos) (.val (.int<|preSum (λi=>ns.getD i 0) ns.length)):=
 mR (he:=hst) (aFD hc) hg hm boot_sum (aC ha aO trivial hst) λσ F H vs Q S q k=>by
  cases q with
  |cons q1 q2=>cases q2;obtain⟨p,xs,rfl,hp,rl,_⟩:=q1;exact⟨p,ns,rfl,.of (by rw[<-rl.ints];exact hp),k _ F H S (Same.refl _)<|by simp only[ResOk,Rep]⟩
def aGQ:List D->R->Prop:=λds r=>∃ (ns:List Int) (k:Nat),ds=[.scr ns,.int (k:Int)]/\k<=1000/\r=.val (.int<|ns.getD k 0)
noncomputable abbrev SQ:=Nat×Int×Int×Int
noncomputable def sqD(q:SQ):D:=jF q.1 q.2.1 q.2.2.1 q.2.2.2
structure pQ(p:Int×Int)(q:SQ):Prop where
 sz:p∈bR
 k10:q.1<10
 i0:0<=q.2.1/\q.2.1<p.2
 j0:0<=q.2.2.1/\q.2.2.1<p.2
 n0:0<=q.2.2.2/\q.2.2.2<((2^p.1.toNat:Nat):Int)
theorem pw0(n:Nat):(0:Int)<((2^n:Nat):Int):=by have:0<2^n:=Nat.pow_pos (by decide);generalize 2^n=q at this ⊢;omega
noncomputable abbrev SK:=SQ×Int
noncomputable def skD(s:SK):D:=.tup [sqD s.1,.int s.2]
structure StkOk(p:Int×Int)(L:List SK):Prop where
 pos:0<L.length
 le:L.length<=8
 st:∀s∈L,pQ p s.1/\1<=s.2/\s.2<=9
structure Fil(p:Int×Int)(ws:List Int):Prop where
 len:ws.length=p.2.toNat
 wd:∀w∈ws,0<=w/\w<((2^p.1.toNat:Nat):Int)
noncomputable def nwQ(p:Int×Int)(q:SQ)(ws:List Int):Int:=newW q.1 ((2^p.1.toNat:Nat):Int) (ws.getD q.2.1.toNat 0) (ws.getD q.2.2.1.toNat 0) q.2.2.2
noncomputable def onQ(p:Int×Int)(q:SQ)(ws:List Int):List Int:=ws.set q.2.1.toNat<|nwQ p q ws
noncomputable def aOT(p:Int×Int)(L:List SK)(row:List Nat)(ws:List Int):List Int:=row.foldl (λf t=>onQ p (L.getD t AM).1 f) ws
theorem aJU{p:Int×Int}{q:SQ}{ws:List Int}(O:pQ p q)(G:Fil p ws):0<=nwQ p q ws/\nwQ p q ws<((2^p.1.toNat:Nat):Int):=by obtain⟨h1,h2,h3,h4,h5⟩:=xQ p O.sz;exact aGV (by omega) O.k10 (G.wd _ (getD_mem<|by have:=O.i0;rw[G.len];omega)) (G.wd _ (getD_mem<|by have:=O.j0;rw[G.len];omega)) O.n0
theorem aAM{p:Int×Int}{q:SQ}{ws:List Int}(O:pQ p q)(G:Fil p ws):Fil p (onQ p q ws):=by
 refine⟨by unfold onQ;rw[List.length_set];exact G.len,λw hw=> ?_⟩
 rcases List.mem_or_eq_of_mem_set hw with hw|rfl
 ·exact G.wd w hw
 ·exact aJU O G
theorem lN{p:Int×Int}(hp:p∈bR){ws:List Int}(h:ws∈iW (2^p.1.toNat) p.2.toNat):Fil p ws:=by
 have g:∀ (m k:Nat),∀s∈iW m k,s.length=k/\∀x∈s,0<=x/\x<(m:Int):=λm k=>by
  induction k with
  |zero=>
   intro s h;have:s=[]:=by simpa[iW] using h
   subst this;exact⟨rfl,λx hx=>by cases hx⟩
  |succ k ih=>
   intro s h;obtain⟨t,ht,hs⟩:=eI.mp h;obtain⟨w,hw,rfl⟩:=aE.mp hs;obtain⟨a,b⟩:=ih t ht;refine⟨by rw[aQ,a];rfl,λx hx=> ?_⟩
   rcases aU.mp hx with hx|hx
   ·exact b x hx
   ·have e:x=(w:Int):=by simpa using hx
    have:=bP.mp hw;omega
 obtain⟨a,b⟩:=g _ _ ws h;exact⟨a,b⟩
noncomputable def bJ(row:List Nat):List D:=row.map λ(t:Nat)=>D.int (t:Int)
noncomputable def zL(L:List SK)(row:List Nat):List Int:=row.map λt=>(L.getD t AM).2
noncomputable def aJw(l:List Int):Int:=preSum (λi=>l.getD i 0) l.length
def aIV:List D->R->Prop:=λds r=>∃ (L:List SK) (row:List Nat),(∀t∈row,t<L.length)/\row.length<=500/\ds=[.lst<|L.map skD,.tup<|bJ row]/\r=.val (.int (aJw<|zL L row))
theorem wQ{f g:Nat->Int}:∀n,(∀i,i<n->f i=g i)->preSum f n=preSum g n
 |0,_=>rfl
 |n+1,h=>by show preSum f n+f n=preSum g n+g n;rw[wQ n λi hi=>h i<|by omega,h n<|by omega]
theorem aFv(l:List Int)(x:Int):aJw (l++[x])=aJw l+x:=by unfold aJw;rw[aQ];show preSum _ l.length+_=_;rw[wQ (g:=λi=>l.getD i 0) l.length λi hi=>by simp[bX,gK hi]];simp[bX]
theorem aNb{d1 d2:D}{x y:V}{k:Bool}(ha:PEd X sd a (.val d1))(hb:PEd X sd b (.val d2))(h1:flt d1=some x)(h2:flt d2=some y)(hs:aOV x y=true)(hk:decide (x=y)=k):PEd X sd (.Compare a [.Eq] [b] pos) (.val<|.bl k):=
 rR aJI ha hb trivial (iI _) λσ F H v u Q S q1 q2 kk=>by have e1:=sQ h1 q1;have e2:=sQ h2 q2;subst e1 e2;exact⟨hs,by rw[hk];exact kk F H S<|Same.refl _⟩
theorem vX{p:Pos}(hg:Gl X "list")(hm:X.mg "list"=none)(ha:PEd X sd e (.bor ds))(hst:AF [e] X.env=(false,eval e X.env)::AF [] X.env:=by rfl):PEd X sd (.Call (.Name "list" p) [e] [] pos) (.own ds):=
 tV (he:=hst) aAt hg hm PyProof.Rows.boot_list (aC ha aO trivial hst) λσ F H vs Q S q k=>by
  cases q with
  |cons q1 q2=>cases q2;obtain⟨p,xs,rfl,hp,rl,_⟩:=q1;refine⟨p,xs,rfl,.inl<|.of hp,λl hl=> ?_⟩;obtain⟨S2,fp,no⟩:=S.layO (xs:=xs) hl;exact k _ F _ S2 (Same.refl _) ⟨l,xs,rfl,fp,cG,rl,no⟩
mutual
theorem yU:∀d:D,pl d=true->deq d d=true
 |.non,_=>rfl
 |.bl b,_=>by simp[deq]
 |.int i,_=>by simp[deq]
 |.str x,_=>by simp[deq]
 |.tup ds,h=>by simp only[deq];exact uH ds (by simpa only[pl] using h)
 |.lst ds,h=>by simp only[deq];exact uH ds (by simpa only[pl] using h)
 |.dic,h=>by simp[pl] at h
 |.dki _ _,h=>by simp[pl] at h
 |.any _,h=>by simp[pl] at h
 |.scr _,h=>by simp[pl] at h
theorem uH:∀ds:List D,plL ds=true->lD ds ds=true
 |[],_=>rfl
 |d::ds,h=>by simp only[plL,bC] at h;simp only[lD,bC];exact⟨yU d h.1,uH ds h.2⟩
end
theorem aLw{row:List Nat}{k:Nat}(h:(bJ row)[k]? =some d):k<row.length/\d=.int ((row.getD k 0:Nat):Int):=by
 unfold bJ at h;rw[bA] at h;cases e:row[k]? with
 |none=>rw[e] at h;cases h
 |some z=>rw[e] at h;refine⟨(aK.mp e).1, ?_⟩;rw[<-cA.inj h,bX,e];rfl
theorem aIv{L:List SK}{t:Nat}(h:t<L.length):(L.map skD)[t]? =some (skD<|L.getD t AM):=by rw[bA];simp[bX,h]
noncomputable def itO(tp:Bool)(l:BJ):BM:=match tp with
 |true=>{cls:=.type "tuple_iterator",data:=.fields #[.ref l,.int 0 0]}
 |false=>{cls:=.type "list_iterator",data:=.fields #[.ref l,.int 0 0]}
noncomputable abbrev zA(p:Bool)(h:BL)(l:BJ):BL:=h.push<|itO p l
noncomputable abbrev zB(p q:Bool)(h:BL)(l m:BJ):BL:=(zA p h l).push<|itO q m
noncomputable abbrev zC(p q:Bool)(h:BL)(l m:BJ):BL:=(zB p q h l m).push {cls:=.type "tuple",data:=.seq #[.ref h.objs.size,.ref (zA p h l).objs.size]}
noncomputable abbrev zD(p q:Bool)(h:BL)(l m:BJ):BL:=(zC p q h l m).push {cls:=.type "tuple",data:=.seq #[.none,.none]}
noncomputable abbrev zE(p q:Bool)(h:BL)(l m:BJ):BL:=(zD p q h l m).push {cls:=.type "zip",data:=.fields #[.none,.bool false,.bool false,.ref (zB p q h l m).objs.size,.ref (zC p q h l m).objs.size]}
theorem pV(L:List (List Int))(m:Nat):(L.flatMap λs=>(bO m).map λ(w:Nat)=>s++[(w:Int)]).length=L.length*m:=by
 induction L with
 |nil=>simp
 |cons s L ih=>rw[List.flatMap_cons,aQ,ih,aA,fQ,bU,aGn,Nat.add_comm]
theorem sG:∀ (m k:Nat),(iW m k).length=m^k
 |_,0=>rfl
 |m,k+1=>by show((iW m k).flatMap _).length=_;rw[pV,sG m k,pZ]
theorem xJ:∀ (m k:Nat),∀s∈iW m k,s.length=k
 |_,0,s,h=>by
  have:s=[]:=by simpa[iW] using h
  subst this;rfl
 |m,k+1,s,h=>by obtain⟨t,ht,hs⟩:=eI.mp h;obtain⟨w,_,rfl⟩:=aE.mp hs;rw[aQ,xJ m k t ht];rfl
theorem zU:∀p∈bR,∀k,k<p.2.toNat->((2^p.1.toNat)^k)*2^p.1.toNat<=900:=by decide+kernel
noncomputable def tabQ(p:Int×Int)(L:List SK)(row:List Nat):List (List Int):=(iW (2^p.1.toNat) p.2.toNat).map λws=>aOT p L row ws
theorem kA{p:Int×Int}(hp:p∈bR):(iW (2^p.1.toNat) p.2.toNat).length<=64:=by
 have:∀p∈bR,(2^p.1.toNat)^p.2.toNat<=64:=by decide+kernel
 rw[sG];exact this p hp
theorem xF{L:List (List Int)}(h:d∈L.map bF):∃ws∈L,d=bF ws:=by obtain⟨ws,hw,rfl⟩:=aE.mp h;exact⟨ws,hw,rfl⟩
noncomputable def nK:D->List Int
 |.tup ds=>ds.map λd=>match d with | .int i=>i|_=>0
 |_=>[]
theorem lG(ws:List Int):nK (bF ws)=ws:=by
 show(ws.map D.int).map _=ws;rw[aR]
 induction ws with
 |nil=>rfl
 |cons w ws ih=>rw[aZ,ih];rfl
noncomputable def isN:D->Bool
 |.non=>true
 |_=>false
theorem aAW(h:Rep K H d v):decide (v=.non)=isN d:=by
 cases d with
 |non=>simp only[Rep] at h;subst h;rfl
 |bl=>simp only[Rep] at h;subst h;rfl
 |int=>simp only[Rep] at h;subst h;rfl
 |str=>simp only[Rep] at h;subst h;rfl
 |tup=>simp only[Rep] at h;obtain⟨a,xs,rfl,_⟩:=h;rfl
 |lst=>simp only[Rep] at h;obtain⟨a,xs,rfl,_⟩:=h;rfl
 |dic=>simp only[Rep] at h;obtain⟨a,rfl,_⟩:=h;rfl
 |dki=>simp only[Rep] at h;obtain⟨a,xs,rfl,_⟩:=h;rfl
 |any=>simp only[Rep] at h;obtain⟨⟨a,rfl⟩,_⟩:=h;rfl
 |scr=>simp only[Rep] at h;obtain⟨a,rfl,_⟩:=h;rfl
theorem tL(ha:PEd X sd a (.val d))(hb:PEd X sd b (.val .non)):PTd X sd (.Compare a [.Is] [b] pos) (isN d):=
 nT aIM ha hb trivial (iI _) λσ F H v u Q S q1 q2 k=>by simp only[ResOk,Rep] at q2;have q1:Rep _ _ _ _:=q1;exact⟨q2,by rw[aAW q1];exact k F H S<|Same.refl _⟩
theorem aCv(ha:PEd X sd a (.val d))(hb:PEd X sd b (.val .non)):PTd X sd (.Compare a [.IsNot] [b] pos) (!isN d):=
 nT aLf ha hb trivial (iI _) λσ F H v u Q S q1 q2 k=>by simp only[ResOk,Rep] at q2;have q1:Rep _ _ _ _:=q1;exact⟨q2,by rw[aAW q1];exact k F H S<|Same.refl _⟩
theorem aIC(ha:PEd X sd a (.val d))(hb:PEd X sd b (.val .non)):PEd X sd (.Compare a [.Is] [b] pos) (.val (.bl<|isN d)):=
 rR aIM ha hb trivial (iI _) λσ F H v u Q S q1 q2 k=>by simp only[ResOk,Rep] at q2;have q1:Rep _ _ _ _:=q1;exact⟨q2,by rw[aAW q1];exact k F H S<|Same.refl _⟩
structure FunD(K:aB)(x qual:Str)(st:BN)(f:BJ)(fd:AW):Prop where
 ex:∃ (oc:BH) (od:Option BJ) (T:BJ) (kV doc pm:BH) (an:Option BJ) (cdv ct:BH) (osl:Array (Option BH)) (tc:BH) (td:Option BJ) (n:Nat) (tsl:Array (Option BH)),
  fd=gC x qual (kU st) (iG st) (bI st) (.ref T) kV doc pm an cdv ct/\K.lookup f=some ⟨oc,od,.func fd,osl⟩/\lA K cdv qual=true/\K.lookup T=some ⟨tc,td,.seq #[.none] n,tsl⟩
 kp:eG K (.ref f)=true
structure aQf(P:AD)(w:AL)(K:aB)(mg:Str->Option BH)(base:BL)(x:Str)(k n:Nat)(C:List D->R->Prop):Prop where
 ex:∃ (f:BJ) (fd:AW) (ps:List Str),mg x=some (.ref f)/\eG K (.ref f)=true/\Binds K fd ps []/\Binds K fd ps [.none]/\FnOk P w K mg base CX0 k f fd ps (spC K n C)
theorem aGN{u d n c:Nat}(h:u+n<c)(hd:d+1<=n):u+d+1<c:=by omega
noncomputable def bT(p:Int×Int):List (List Int):=iW (2^p.1.toNat) p.2.toNat
noncomputable def aOt:Option (List Int)->D
 |none=>.non
 |some ws=>bF ws
structure aGS(p:Int×Int)(T:List (List Int)):Prop where
 len:T.length=(bT p).length
 fil:∀ws∈T,Fil p ws
theorem tH{V:List (List Int)}{k:Nat}(h:k<V.length):(V.map bF)[k]? =some (bF<|V.getD k []):=by simp[bX,h]
theorem aAc{α:Type}{L:List α}{k:Nat}(d:α)(h:k<L.length):L.take (k+1)=L.take k++[L.getD k d]:=by rw[fO];simp[bX,h]
theorem aFy(d:D)(ds:List D)(p1:pl d=true)(p2:plL ds=true)(hu:X.A.units+1+jT ds<AQ):OpR X (AS .NotIn) (λx y H Q=>Rep X.K H (.lst ds) y/\Rep X.K H d x/\Q (.bl<|!ds.any λz=>deq z d) H):=by
 intro pins s σ H x y v u Q I rx ry h;obtain⟨hl,hd,k⟩:=h;obtain⟨a,xs,its,rfl,rfl,rl,rv,ht⟩:=lV I.hok hl ry
 have hat:∀ (j:Nat) (w:BH),its[j]? =some w->∃z v,ds[j]? =some z/\xs[j]? =some v/\Rep X.K H z v/\RelV v w:=λj w hw=>by
  have hj:j<its.length:=(aK.mp hw).1;have hx:j<xs.length:=by rw[Vals.length rv];exact hj
  have hd:j<ds.length:=by rw[<-rl.len];exact hx
  obtain⟨v,hv,rz⟩:=rl.get (i:=j) (d:=ds[j]) (by simp[hd])
  exact ⟨ds[j],v,by simp [hd],hv,rz,by
   have:=rv.get hv;obtain⟨w',hw',r⟩:=this;rw[hw] at hw';cases hw'
   exact r⟩
 have dc:=λw:BH=>Classical.propDecidable (∃ (j:Nat) (z:D),its[j]? =some w/\ds[j]? =some z/\deq z d=true)
 refine SeqAt.notIn_listAt (λw=> @decide _<|dc w) ht (λw hw=> ?_) ⟨.bl _,H,I,rfl, ?_⟩
 ·by_cases q:∃ (j:Nat) (z:D),its[j]? =some w/\ds[j]? =some z/\deq z d=true
  ·obtain⟨j,z,e1,e2,e3⟩:=q;obtain⟨z',v,f1,f2,f3,f4⟩:=hat j w e1;rw[e2] at f1;cases f1;have: @decide _ (dc w)=true:=by rw[decide_eq_true_eq];exact⟨j,z,e1,e2,e3⟩
   rw[this,<-e3];exact aBA I.hok z (aBa p2 e2) p1 f3 hd f4 rx (by have:=xI e2;show X.A.units+1+dep z<AQ;omega)
  ·have hw':w∈its:=by simpa using hw
   obtain⟨j,hj,rfl⟩:=dE hw';obtain⟨z,v,f1,f2,f3,f4⟩:=hat j its[j] (by simp[hj])
   have e3:deq z d=false:=by
    cases h:deq z d with
    |false=>rfl
    |true=>exact(q ⟨j,z,by simp[hj],f1,h⟩).elim
   have: @decide _ (dc its[j])=false:=by rw[decide_eq_false_iff_not];exact q
   rw[this,<-e3];exact aBA I.hok z (aBa p2 f1) p1 f3 hd f4 rx (by have:=xI f1;show X.A.units+1+dep z<AQ;omega)
 ·have e:its.toArray.any (λw=> @decide _<|dc w)=ds.any λz=>deq z d:=by
   rw[gI,List.any_toArray,gL,gL]
   constructor
   ·rintro⟨w,hw,q⟩;rw[decide_eq_true_eq] at q;obtain⟨j,z,e1,e2,e3⟩:=q;exact⟨z,bD e2,e3⟩
   ·rintro⟨z,hz,e3⟩;obtain⟨j,hj,rfl⟩:=dE hz;have hi:j<its.length:=by rw[<-Vals.length rv,rl.len];exact hj
    exact⟨its[j],eJ hi,by rw[decide_eq_true_eq];exact⟨j,ds[j],by simp[hi],by simp[hj],e3⟩⟩
  rw[e];exact k
theorem aCu(ha:PEd X sd a (.val d))(hb:PEd X sd b (.val<|.lst ds))(p1:pl d=true)(p2:plL ds=true)(hu:X.A.units+1+jT ds<AQ)(hk:AT .NotIn b=false:=by with_unfolding_all rfl):PTd X sd (.Compare a [.NotIn] [b] pos) (!ds.any λz=>deq z d):=
 nT (aFy d ds p1 p2 hu) ha hb trivial hk λσ F H x u Q S q1 q2 k=>⟨Rep.mono S.sub q2,Rep.mono S.sub q1,k F H S<|Same.refl _⟩
variable {es:List D}
theorem RepL.atI{i:Int}(r:RepL K H ds xs)(h:L2.atI ds i=some d):∃v,L2.atI xs i=some v/\Rep K H d v:=by
 unfold L2.atI at h ⊢;rw[r.len];cases e:ixN ds.length i with
 |none=>rw[e] at h;cases h
 |some j=>rw[e] at h;exact r.get h
theorem aNC{τ:List Nat}{b:Nat}(h:b<τ.length):(bJ τ)[b]? =some (.int ((τ.getD b 0:Nat):Int)):=by unfold bJ;rw[bA];simp[bX,h]
theorem vL{k:Nat}{q:Nat}{p:Pos}(hb:PEd X sd b (.val<|.int (k:Int)))(hk:k<=1000):PEd X sd (.BinOp (.Constant (.int 1) q p) .LShift b pos) (.val<|.int ((2^k:Nat):Int)):=
 PEd.ic (cT aJg bB hb ⟨by omega,by omega,by decide⟩) (by rw[Int.one_mul,dO];push_cast;rfl)
noncomputable def byT(w:AL):Bool:=w.params.followText "set-order"
noncomputable def insK(k:Nat)(ks:List Nat):List Nat:=ks.filter (λi=>decide<|i<k)++k::ks.filter (λi=>decide<|k<i)
noncomputable def aQA(led:Bool)(m mv:Nat)(ks:List Nat):BP:={mask:=m,place:=ks.toArray,dummies:= #[],finger:=0,led:=led,moves:=mv,plain:=true}
noncomputable def aOK(led:Bool)(ks:List Nat):BP:=if ks.length<5 then aQA led 7 0 ks else aQA led 31 1 ks
structure SmS(w:AL)(o:BM)(ks:List Nat):Prop where
 ex:∃ (es:List (Int×BH)) (ep:Nat),o={cls:=.type "set",dict:=none,data:=.set es.toArray ep (aOK (!byT w) ks)}/\es.map (·.1)=ks.map Int.ofNat/\∀e∈es,∃t,e.2=.int e.1 t
theorem aMc{α:Type}(l:List α)(p:Nat)(y:α):jD l.toArray p y=(l.take p++y::l.drop p).toArray:=by unfold jD;apply lU.mp;simp;exact fG<|by simp
noncomputable def aDB:List Nat->List Nat->List Nat
 |ks,[]=>ks
 |ks,v::vs=>aDB (insK v ks) vs
variable {prog:AD}{A:BK}
noncomputable abbrev aGE(w:AL):BM:={cls:=.type "set",dict:=none,data:=.set #[] 0 (aOK (!byT w) [])}
theorem newK{E:BH->BI->Prop}(a:BH){Q₁:BH->BI->Prop}(h:Q₁ (.ref s.heap.objs.size) {s with heap:=s.heap.push (aGE w)}):
  codeAny (AG prog w) A (.call (.builtin "set.__new__") ⟨[.type "set",a],[]⟩) (wants Q₁ E) s:=by
 refine codeAny_of_tree ?_;refine AA (m:=checkBuiltinCall "set.__new__" _) (wpAny_of_eq (F.newCall_set_1 a)<|AB ⟨Az F.plain_set_new _,Ai F.entry_set_new ?_⟩);rw[Around.under_plainId F.plain_set_new];unfold Builtin.«set.__new__» Builtin.Frozenset.newClass;have q:=sub_set_self;obtain⟨hp,g,d,tk,os⟩:=s;dsimp only
 wp_walk
 refine BE<|AB ?_;dsimp only;simp only[newObj];refine AA<|wpAny_alloc (AB<|AB ?_);exact h
theorem aBl:isSubtype (.type "list") (.type "set")=pure false:=by rw[isSubtype_type];kernel_rfl
theorem aCH:isSubtype (.type "list") (.type "frozenset")=pure false:=by rw[isSubtype_type];kernel_rfl
theorem slot_sit_next:PySem.Slot "set_iterator" "__next__" "set_iterator.__next__":=
 .of (owner:="set_iterator") (n:="__next__") (by rw[typeLookup_type,builtinLookup_eq_fast];kernel_rfl) (by decide+kernel) (by decide+kernel) (by decide+kernel) (by first|exact .inl (by decide+kernel)|exact .inr (by decide+kernel)) (by rw[isSubtype_type];kernel_rfl)
theorem wB:entryFor table "set_iterator.__next__"=some Builtin.«set_iterator.__next__»:=entryFor_of_tree (by kernel_rfl)
theorem zJ(a:BH):argsOk "set_iterator.__next__" ⟨[a],[]⟩:=by unfold argsOk;kernel_rfl
theorem qX:PySem.Slot "set_iterator" "__iter__" "set_iterator.__iter__":=
 .of (owner:="set_iterator") (n:="__iter__") (by rw[typeLookup_type,builtinLookup_eq_fast];kernel_rfl) (by decide+kernel) (by decide+kernel) (by decide+kernel) (by first|exact .inl (by decide+kernel)|exact .inr (by decide+kernel)) (by rw[isSubtype_type];kernel_rfl)
theorem wU:entryFor table "set_iterator.__iter__"=some Builtin.«dict_keyiterator.__iter__»:=entryFor_alias (id':="dict_keyiterator.__iter__") (by kernel_rfl) rfl (by decide+kernel) (by kernel_rfl)
theorem zM(a:BH):argsOk "set_iterator.__iter__" ⟨[a],[]⟩:=by unfold argsOk;kernel_rfl
theorem aDf:entryFor table "set.__iter__"=some Builtin.«frozenset.__iter__»:=entryFor_alias (id':="frozenset.__iter__") (by kernel_rfl) rfl (by decide+kernel) (by kernel_rfl)
noncomputable def pK(w:AL)(S:BJ)(ep:Nat)(es:List (Int×BH)):List (Int×BH):=if byT w then(pickOrder (w.params.setOrder S ep) es.toArray).toList else es
theorem uP{α:Type}:∀ (l:List α) (i:Nat) (h:i<l.length),(l[i]::l.eraseIdx i).Perm l
 |[],_,h=>by simp at h
 |a::l,0,_=>.refl _
 |a::l,i+1,h=>by show(l[i]'(by simpa using h)::a::l.eraseIdx i).Perm (a::l);exact(List.Perm.swap a _ _).trans<|.cons a (uP l i<|by simpa using h)
theorem aEx{α:Type}(f:Nat->Nat):∀ (n k:Nat) (left:List α) (out:Array α),left.length=n->(pickOrder.go f n k left out).toList.Perm (out.toList++left)
 |0,_,left,out,h=>by have:left=[]:=fR h;subst this;rw[cY];exact List.Perm.refl _
 |n+1,k,left,out,h=>by have hlt:f k%left.length<left.length:=uL _ (by omega);unfold pickOrder.go;rw[eM hlt];dsimp only;refine(aEx f n (k+1) _ _<|by rw[List.length_eraseIdx_of_lt hlt];omega).trans ?_;rw[jI,eA];exact List.Perm.append_left _<|uP left _ hlt
theorem aAm{S:BJ}{ep:Nat}(es:List (Int×BH)):(pK w S ep es).Perm es:=by
 unfold pK
 split
 ·have:=aEx (w.params.setOrder S ep) es.toArray.size 0 es.toArray.toList #[] (by simp);simpa[pickOrder] using this
 ·exact List.Perm.refl _
noncomputable def stK(w:AL)(ks:List Nat)(i:Nat):Nat:=if byT w then 0 else match i with
 |0=>0
 |j+1=>ks.getD j 0+1
noncomputable def itK(w:AL)(S:BJ)(ks:List Nat)(ep i:Nat):BM:={cls:=.type "set_iterator",data:=.fields #[rawInt<|stK w ks i,rawInt i,.ref S,rawInt ks.length,rawInt ep]}
variable {E:BH->BI->Prop}
theorem aAo{I S:BJ}{ks:List Nat}{ep:Nat}(h:s.heap.get? I=some (itK w S ks ep i)):s.TypeIs (.ref I) "set_iterator":=⟨_,h,rfl⟩
theorem aPH{I S:BJ}{ks:List Nat}{ep:Nat}{Q:BH->BI->Prop}(hI:s.heap.get? I=some (itK w S ks ep i))(h:Q (.ref I) s):AI (AG prog w) A (pyIter<|.ref I) Q E s:=by have hT:=aAo hI;refine wpAny_pyIter_slot hT qX (Ae qX hT wU ?_<|zM _);exact AB ⟨_,rfl,"set_iterator",_,hT,slot_sit_next.lookup,h⟩
theorem aPT{r:BJ}{Q:Bool->BI->Prop}(hT:s.TypeIs (.ref r) "set")(h:Q false s):AI (AG prog w) A (Builtin.List.listLengthHint<|.ref r) Q E s:=by
 unfold Builtin.List.listLengthHint;refine AA<|wpAny_specialOf hT F.slot_set_len.lookup ?_;generalize q:("set.__len__":String)=i0
 wp_delta
 rw[show splitId i0=some ("set","__len__") from by subst q;decide+kernel];subst q;refine AA (wpAny_isInstance (T:="set") (b:=true) hT sub_set_self<|wpAny_ite_split (λz=>absurd z<|by decide) λ_=> ?_);refine wpAny_ite_split (λ_=>AA (wpAny_typeOf hT<|AB h)) λz=>absurd (by decide+kernel) z
theorem aEz:∀ {ns:List Int}{vs:List BH},Vals (ns.map V.int) vs->IntsAre vs ns
 |[],_,.nil=>.nil
 |n::ns,_::_,.cons r t=>by obtain⟨k,rfl⟩:=r;exact .cons n k<|aEz t
noncomputable def rdQ(q:SQ):List Nat:=if q.1=6 then[] else if q.1=5 then[q.2.2.1.toNat] else if 7<=q.1 then[q.2.1.toNat] else aDB [] [q.2.1.toNat,q.2.2.1.toNat]
noncomputable def ahQ(q:SQ)(bs:List Nat):List Nat:=if bs.contains q.2.1.toNat then aDB [] (bs.filter (λb=> !decide (b=q.2.1.toNat))++rdQ q) else bs
noncomputable def bqQ(L:List SK)(look:List Nat):List Nat->List Nat
 |[]=>look
 |t::row=>ahQ (L.getD t AM).1<|bqQ L look row
noncomputable def prQ(L:List SK)(look:List Nat):List Nat->List Nat
 |[]=>[]
 |t::row=>if(bqQ L look row).contains (L.getD t AM).1.2.1.toNat then t::prQ L look row else prQ L look row
def gV(K:aB)(F0:Hp)(d:D):V->Hp->Prop:=λv F=>Rep K F0 d v/\Same F0 F
theorem yI:∀ {sd:List Slot}{i:Nat}{z:Slot},(cQ sd).Nodup->sd[i]? =some z->(iR z).Nodup
 |[],_,_,_,e=>by simp at e
 |y::zs,0,z,h,e=>by
  have:y=z:=by simpa using e
  subst this;exact(bK.mp (show(iR y++cQ zs).Nodup from h)).1
 |y::zs,i+1,z,h,e=>yI (sd:=zs) (i:=i) (bK.mp (show(iR y++cQ zs).Nodup from h)).2.1 (by simpa using e)
variable {ls:List BJ}{nss:List (List Int)}
theorem StF.reX{z z':Slot}{o:Option V}(S:StF K H₀ F H σ sd)(hs:sd[i]? =some z)(ho:σ[i]? =some o)(keep:∀b ob,b∉iR z->H b=some ob->H' b=some ob)(sm:Smp H')(q:jB K F H' z' o)(nd:(iR z').Nodup)(no:∀a∈iR z',a∈iR z\/a∉cQ sd):StF K H₀ F H' σ (sd.set i z'):=by
 have S0:=S.le<|iO sd i;have mz:∀a∈iR z,a∈cQ sd:=λa ha=>eI.mpr ⟨z,bD hs,ha⟩
 refine⟨S.base,λb u e=> ?_,sm, ?_, ?_⟩
 ·refine keep b u (λhb=> ?_)<|S.sub _ _ e;have:=(S.slots.owns<|mz b hb).1;rw[e] at this;cases this
 ·have q1:SlotsOk K F H' (sd.set i .un) σ:=S0.slots.mono (Same.refl _) λa ha=>⟨(S0.slots.owns ha).1,λob e=>keep a ob (λhb=>jJ S.nd hs hb ha) e⟩
  have q2:=q1.set (z:=z') (o:=o) q i;rw[kS,mM ho] at q2;exact q2
 ·have:=lI (z:=z') i S0.nd (fun a ha=>by
   rcases no a ha with h|h
   ·exact .inl<|jJ S.nd hs h
   ·exact .inl λhm=>h ((iO sd i).own.subset hm)) nd
  rw[kS] at this;exact this.1
noncomputable def inF(F H:Hp)(as:List BJ):Hp:=λb=>if b∈as then H b else F b
theorem aIQ{as:List BJ}{b:BJ}(h:b∈as):inF F H as b=H b:=if_pos h
theorem aDJ{as:List BJ}{b:BJ}(h:b∉as):inF F H as b=F b:=if_neg h
theorem aKg{as:List BJ}(h:∀a∈as,F a=none):Same F (inF F H as):=λb u e=>by rw[aDJ λhb=>by rw[h b hb] at e;cases e];exact e
theorem StF.inN(S:StF K H₀ F H σ sd)(h0:∀a∈l::ls,F a=none)(no:∀a∈l::ls,a∉cQ sd):StF K H₀ (inF F H (l::ls)) H σ sd/\Same F (inF F H (l::ls)):=by
 have s1:=aKg (H:=H) h0;refine⟨⟨λb u e=>s1 _ _<|S.base _ _ e,λb u e=> ?_,S.smp,S.slots.mono s1 λa ha=>⟨?_,λob e=>e⟩,S.nd⟩,s1⟩
 ·by_cases h:b∈l::ls
  ·rw[aIQ h] at e;exact e
  ·rw[aDJ h] at e;exact S.sub _ _ e
 ·rw[aDJ λhb=>no a hb ha];exact(S.slots.owns ha).1
variable {es:List Expr}{E:kE}{ns:List Int}
theorem aKa(h:Smp H)(a:BJ):Smp (upd H a<|.lst xs):=λb u e=>by
 by_cases z:b=a
 ·subst z;rw[cG] at e;cases e;trivial
 ·rw[bV z] at e;exact h _ _ e
theorem natI(x:List Nat):bJ x=(x.map λ(t:Nat)=>(t:Int)).map D.int:=by unfold bJ;rw[aR];rfl
noncomputable def InD(K:aB)(F H:Hp):List BJ->List (List D)->Prop
 |[],[]=>True
 |a::as,ds::dss=>(∃xs,H a=some (.lst xs)/\RepL K F ds xs)/\InD K F H as dss
 |_,_=>False
theorem InD.len:∀ {as:List BJ}{dss:List (List D)},InD K F H as dss->as.length=dss.length
 |[],[],_=>rfl
 |[],_::_,h=>h.elim
 |_::_,[],h=>h.elim
 |_::as,_::dss,h=>by rw[bU,bU,InD.len h.2]
theorem InD.of:∀ {as:List BJ}{dss:List (List D)},InD K F H as dss->∀a∈as,∃xs,H a=some (.lst xs)
 |[],[],_,a,ha=>by cases ha
 |[],_::_,h,_,_=>h.elim
 |_::_,[],h,_,_=>h.elim
 |b::as,_::dss,h,a,ha=>by
  rcases aW.mp ha with rfl|ha
  ·exact⟨h.1.choose,h.1.choose_spec.1⟩
  ·exact InD.of h.2 a ha
def GD(K:aB)(l:BJ)(ls:List BJ)(dss:List (List D)):V->Hp->Hp->Prop:=λv F H=>v=.ref l/\H l=some (.lst<|ls.map V.ref)/\InD K F H ls dss
variable {dss:List (List D)}
theorem InD.mono2:∀ {as:List BJ}{dss:List (List D)},InD K F H as dss->Same F F'->(∀a∈as,∀ob,H a=some ob->H' a=some ob)->InD K F' H' as dss
 |[],[],_,_,_=>trivial
 |[],_::_,h,_,_=>h.elim
 |_::_,[],h,_,_=>h.elim
 |a::as,_::dss,h,s,k=>by obtain⟨⟨xs,e,r⟩,h2⟩:=h;exact⟨⟨xs,k a aH _ e,r.mono s⟩,InD.mono2 h2 s λb hb=>k b<|aI _ hb⟩
theorem InD.get:∀ {as:List BJ}{dss:List (List D)}{t:Nat}{a:BJ},InD K F H as dss->as[t]? =some a->∃ds xs,dss[t]? =some ds/\H a=some (.lst xs)/\RepL K F ds xs
 |[],[],t,a,_,e=>by simp at e
 |[],_::_,_,_,h,_=>h.elim
 |_::_,[],_,_,h,_=>h.elim
 |b::as,ds::dss,0,a,h,e=>by
  have:b=a:=by simpa using e
  subst this;obtain⟨⟨xs,e1,r⟩,_⟩:=h;exact⟨ds,xs,rfl,e1,r⟩
 |b::as,ds::dss,t+1,a,h,e=>by obtain⟨ms,xs,e1,e2⟩:=InD.get (t:=t) h.2 (by simpa using e);exact⟨ms,xs,by simpa using e1,e2⟩
theorem InD.set:∀ {as:List BJ}{dss:List (List D)}{t:Nat}{a:BJ}{es:List D}{ys:List V},as.Nodup->InD K F H as dss->as[t]? =some a->RepL K F es ys->InD K F (upd H a<|.lst ys) as (dss.set t es)
 |[],[],t,a,_,_,_,_,e,_=>by simp at e
 |[],_::_,_,_,_,_,_,h,_,_=>h.elim
 |_::_,[],_,_,_,_,_,h,_,_=>h.elim
 |b::as,ds::dss,0,a,es,ys,nd,h,e,r=>by
  have:b=a:=by simpa using e
  subst this;refine⟨⟨ys,cG,r⟩,h.2.mono2 (Same.refl _) λc hc ob q=> ?_⟩;rw[bV (show c≠b from λz=>(cC.mp nd).1<|z▸hc)];exact q
 |b::as,ds::dss,t+1,a,es,ys,nd,h,e,r=>by
  have e':as[t]? =some a:=by simpa using e
  obtain⟨⟨xs,e1,r1⟩,h2⟩:=h;refine⟨⟨xs, ?_,r1⟩,InD.set (cC.mp nd).2 h2 e' r⟩;rw[bV (show b≠a from λz=>(cC.mp nd).1<|z▸bD e')];exact e1
noncomputable def rH(f:Nat->Bool)(A:List (List Int)):Option (List Int):=((bO A.length).find? f).map λk=>A.getD k []
theorem aCD{f:Nat->Bool}{A:List (List Int)}{k:Nat}(hk:k<A.length)(h:f k=true)(hn:∀j,j<k->f j=false):rH f A=some (A.getD k []):=by
 unfold rH
 have:(bO A.length).find? f=some k:=by rw[List.find?_range_eq_some];exact⟨h,bP.mpr hk,λj hj=>by rw[hn j hj];rfl⟩
 rw[this];rfl
theorem wR{f:Nat->Bool}{A:List (List Int)}(hn:∀j,j<A.length->f j=false):rH f A=none:=by unfold rH;rw[iZ.mpr λk hk=>by rw[hn k<|bP.mp hk];simp];rfl
theorem tE{α:Type}(f:α->D)(h:∀a,pl (f a)=true):∀l:List α,plL (l.map f)=true
 |[]=>rfl
 |a::l=>by show(pl (f a)&&plL (l.map f))=true;rw[h a,tE f h l];rfl
theorem qK{α:Type}(f:α->D)(n:Nat)(h:∀a,dep (f a)<=n):∀l:List α,jT (l.map f)<=n
 |[]=>bW _
 |a::l=>Nat.max_le.mpr ⟨h a,qK f n h l⟩
noncomputable def wsD:Option (List<|List Int)->D
 |none=>.non
 |some L=>.lst<|L.map bF
def WsOk(p:Int×Int)(o:Option (List<|List Int)):Prop:=∀L,o=some L->0<L.length/\L.length<=100/\∀ws∈L,Fil p ws
structure oY(p:Int×Int)(w:List (Option (List<|List Int))):Prop where
 len:w.length=(bT p).length
 ok:∀o∈w,WsOk p o
theorem aPB{w:List (Option (List<|List Int))}{k:Nat}(h:k<w.length):(w.map wsD)[k]? =some (wsD<|w.getD k none):=by simp[bX,h]
theorem aKF(o:Option (List Int)):isN (aOt o)=o.isNone:=by cases o<;>rfl
theorem aPJ(o:Option (List<|List Int)):pl (wsD o)=true:=by
 cases o with
 |none=>rfl
 |some L=>exact oB L
theorem aNv(o:Option (List<|List Int)):dep (wsD o)<=2:=by
 cases o with
 |none=>exact bW _
 |some L=>exact Nat.succ_le_succ<|nO L
theorem aNn(w:List (Option (List<|List Int))):plL (w.map wsD)=true:=tE wsD aPJ w
noncomputable def aLB(w:List (Option (List<|List Int)))(T:List (List Int))(k:Nat):Bool:=match w.getD k none with
 |none=>false
 |some L=> !decide (T.getD k []∈L)
noncomputable def tM(w:List (Option (List<|List Int)))(A T:List (List Int)):Option (List Int):=rH (aLB w T) A
def aMB:List D->R->Prop:=λds r=>∃p w T,p∈bR/\oY p w/\aGS p T/\ds=[cF p,.lst<|w.map wsD,.tup<|T.map bF]/\r=.val (aOt<|tM w (bT p) T)
def aMo:List D->R->Prop:=λds r=>∃p w T,p∈bR/\oY p w/\aGS p T/\ds=[cF p,.lst<|w.map wsD,.tup<|T.map bF]/\r=.val (.bl (tM w (bT p) T).isNone)
theorem aHR(L:List (List Int))(t:List Int):((L.map bF).any λz=>deq z<|bF t)=decide (t∈L):=by
 induction L with
 |nil=>simp
 |cons a L ih=>
  rw[aZ,tP,ih,xL]
  by_cases h:t=a
  ·simp[h]
  ·have h2:¬ a=t:=λq=>h q.symm
   simp[h,h2]
theorem xW:∀a:List Nat,plL (bJ a)=true/\jT (bJ a)=0
 |[]=>⟨rfl,rfl⟩
 |a::as=>by obtain⟨h1,h2⟩:=xW as;unfold bJ at h1 h2 ⊢;simp only[aZ,plL,jT,pl,dep,h1,h2];exact⟨rfl,rfl⟩
theorem aFM(ds:List D)(k:Nat):DL.cutD ds none (some (k:Int))=ds.take k:=by
 unfold DL.cutD;rw[HT.sIx_nat,HT.sIx_none]
 by_cases h:k<=ds.length
 ·rw[aOn h];simp
 ·rw[aLM<|by omega,fG (show ds.length<=k by omega)];simp
theorem aAa(ds:List D)(k:Nat):DL.cutD ds (some (k:Int)) none=ds.drop k:=by
 unfold DL.cutD;rw[HT.sIx_nat,HT.sIx_none]
 by_cases q:k<=ds.length
 ·rw[aOn q];exact fG<|by simp
 ·rw[aLM<|by omega,aDm<|aP _,aDm<|by omega];simp
structure aQO(n:Nat)(τ:List Nat):Prop where
 len:τ.length=n
 lt:∀b∈τ,b<n
 mem:∀b,b<n->b∈τ
 nd:τ.Nodup
structure SqN(n:Nat)(q:SQ):Prop where
 k10:q.1<10
 i0:0<=q.2.1/\q.2.1<n
 j0:0<=q.2.2.1/\q.2.2.1<n
theorem aHt(h:BL)(vs:List BH)(out:Array BH):(∀b x,h.get? b=some x->(sortedAll h vs out).get? b=some x)/\∃n,(sortedAll h vs out).get? (h.objs.size+1)=some (AZ "list" out n):=by
 have hsz:((h.push<|AZ "list" #[] 0).update h.objs.size (Obj.mapSeq (·++vs.toArray))).objs.size=h.objs.size+1:=by rw[pJ,size_push']
 have hoL:(((h.push<|AZ "list" #[] 0).update h.objs.size (Obj.mapSeq (·++vs.toArray))).push<|AZ "list" vs.toArray 0).get? (h.objs.size+1)=some (AZ "list" vs.toArray 0):=by rw[<-hsz];exact bG _ rfl
 constructor
 ·intro b x g;have lt:=aS g;have n1:h.objs.size≠b:=λz=>absurd lt (by rw[z];exact dU _)
  have n2:h.objs.size+1≠b:=λz=>absurd lt (by rw[<-z];exact aCz.mpr<|lB _)
  unfold sortedAll sortedHeap;rw[cI _ _ n2];refine aD _<|aD _ ?_;rw[cI _ _ n2];refine aD _ ?_;rw[cI _ _ n1];exact aD _ g
 ·obtain⟨n1,g1⟩:∃n1,((((h.push<|AZ "list" #[] 0).update h.objs.size (Obj.mapSeq (·++vs.toArray))).push<|AZ "list" vs.toArray 0).update (h.objs.size+1)<|Obj.mapSeq λ_=> #[]).get? (h.objs.size+1)=some (AZ "list" #[] n1):=⟨_,BF hoL λ_=> #[]⟩;exact⟨_,BF (aD _<|aD _ g1) λ_=>out⟩
noncomputable def exO(l:BJ)(o:BM):HO:=.ext λh=>h.get? l=some o
theorem xP{h:BL}{o:BM}(g:h.get? l=some o):ObjOk P w H h l (exO l o):=⟨g,⟨o,g⟩,λ_ _ q k=>k _ q⟩
def TDo(P:AD)(w:AL)(F:Hp)(l:BJ)(o:BM)(kvs:List (List Key×V)):Prop:=
 kvs.length<=AN/\(l==An)=false/\∃xs,KT F kvs xs/\∃es ep,o.ExactDict/\o.data=.dict es ep/\es.toList=xs.map (entryOfKey (Aq<|fJ P w))/\(xs.map (·.1)).Nodup
theorem TDo.mono{o:BM}{kvs:List (List Key×V)}(t:TDo P w F l o kvs)(s:Same F F'):TDo P w F' l o kvs:=by obtain⟨z,y,xs,r,q⟩:=t;exact⟨z,y,xs,r.keeps λb ys e=>s _ _ e,q⟩
theorem KT.all{h:BL}(ok:HOk P w H h){l:List (List Key×V)}{m:List (List Key×BJ×BH)}(q:KT H l m):∀x∈m,(Aq<|fJ P w).is h x.1 x.2.1:=by
 induction q with
 |nil=>intro x hx;exact nomatch hx
 |@cons p q ps qs hq t ih=>
  intro x hx
  rcases aW.mp hx with e|hx
  ·subst e;exact tW ok (by rw[<-hq.1];exact hq.2.1)
  ·exact ih x hx
noncomputable def kD:Key->D
 |.inl i=>.int i
 |.inr x=>.str x
theorem pS{K:aB}{F:Hp}:∀ {k:List Key}{xs:List V},RepL K F (k.map kD) xs->xs=k.map kV
 |[],xs,r=>by simpa only[fD,RepL] using r
 |a::k,xs,r=>by
  rw[aZ] at r;obtain⟨y,ys,rfl,q,rl⟩:=r.uncons;rw[pS rl,aZ];congr 1;cases a with
  |inl i=>simp only[kD,Rep] at q;exact q
  |inr x=>simp only[kD,Rep] at q;exact q
def Gt(P:AD)(w:AL)(K:aB)(l:BJ)(ks:List (List Key))(ds:List D):V->Hp->Hp->Prop:=λv F H=>v=.ref l/\∃o xs,H l=some (exO l o)/\(∀v,o.data≠ .cell v)/\RepL K F ds xs/\ks.length=ds.length/\TDo P w F l o (ks.zip xs)
theorem tS{α β:Type}{xs:List α}{ys:List β}(h:xs.length=ys.length)(x:α)(y:β):(xs++[x]).zip (ys++[y])=xs.zip ys++[(x,y)]:=by rw[List.zip_append h];rfl
theorem aAi{ks:List (List Key)}{k:List Key}(hk:k∉ks):∀ {ks':List (List Key)}{xs:List V},(∀j∈ks',j∈ks)->lQ (ks'.zip xs) k=none
 |[],_,_=>rfl
 |_::_,[],_=>rfl
 |j::js,x::xs,h=>by rw[eW,lP (p:=(j,x)) (k:=k) (λe=>hk<|(show j=k from e)▸h j aH)];exact aAi hk λi hi=>h i<|aI _ hi
variable {ks:List (List Key)}
theorem StF.setT{as:List BJ}{G:V->Hp->Hp->Prop}(S:StF K H₀ F H σ sd)(i:Nat)(q:jB K F H (.ox as G) (some v))(nd:as.Nodup)(no:∀a∈as,a∉cQ sd):StF K H₀ F H (σ.set i (some v)) (sd.set i<|.ox as G):=
 ⟨S.base,S.sub,S.smp,S.slots.set (z:=.ox as G) q i,(lI (z:=.ox as G) i S.nd (λl e=>.inl<|no l e) nd).1⟩
theorem StF.reT{z z':Slot}{o:Option V}(S:StF K H₀ F H σ sd)(hs:sd[i]? =some z)(ho:σ[i]? =some o)(keep:∀b ob,b∉iR z->H b=some ob->H' b=some ob)(sm:Smp H')(q:jB K F H' z' o)(nd:(iR z').Nodup)(no:∀a∈iR z',a∈iR z\/a∉cQ sd):StF K H₀ F H' σ (sd.set i z'):=by
 have S0:=S.le<|iO sd i;have mz:∀a∈iR z,a∈cQ sd:=λa ha=>eI.mpr ⟨z,bD hs,ha⟩
 refine⟨S.base,λb u e=> ?_,sm, ?_, ?_⟩
 ·refine keep b u (λhb=> ?_)<|S.sub _ _ e;have:=(S.slots.owns<|mz b hb).1;rw[e] at this;cases this
 ·have q1:SlotsOk K F H' (sd.set i .un) σ:=S0.slots.mono (Same.refl _) λa ha=>⟨(S0.slots.owns ha).1,λob e=>keep a ob (λhb=>jJ S.nd hs hb ha) e⟩
  have q2:=q1.set (z:=z') (o:=o) q i;rw[kS,mM ho] at q2;exact q2
 ·have:=lI (z:=z') i S0.nd (fun a ha=>by
   rcases no a ha with h|h
   ·exact .inl<|jJ S.nd hs h
   ·exact .inl λhm=>h ((iO sd i).own.subset hm)) nd
  rw[kS] at this;exact this.1
theorem oH{o:BM}(h:Smp H)(a:BJ):Smp (upd H a<|exO a o):=λb u e=>by
 by_cases z:b=a
 ·subst z;rw[cG] at e;cases e;trivial
 ·rw[bV z] at e;exact h _ _ e
variable {k:List Key}
noncomputable def aGI:BM:={cls:=.type "dict",data:=.dict #[]}
theorem aBN:PE X (.Dict [] [] pos) (λ_ H Q=>∀p,H p=none->(p==An)=false->Q (.ref p) (upd H p<|exO p aGI)):=λpins s σ H Q I h=>wpAny_Dict_empty ⟨.ref s.heap.objs.size,_,I.laid (a:=s.heap.objs.size) (o:=exO s.heap.objs.size aGI) (t':=s.toks) (λ_ _ q=>aD _ q) (aP _) (xP<|bG _ rfl),rfl,h _ (I.hok.fresh<|aP _)<|beq_eq_false_iff_ne.mpr (Ne.symm<|bS I.big)⟩
section
variable {prog:AD}{w:AL}{K:Type}[DecidableEq K]{knd:HeapKind prog w K}{A:BK}{E:BH->BI->Prop}{s:BI}
theorem qO{d a:BJ}{xs:List (K×BJ×BH)}{k:K}{v:BH}{Q:BH->BI->Prop}(hu:knd.room A)(hkey:knd.is s.heap k a)(hm:s.heap.DictOfH knd d xs)
  (hold:∀u,(atKey xs k).map (·.2)=some u->Q u {s with toks:=s.toks+knd.draws k})
  (hnew:atKey xs k=none->∀h',h'.DictOfH knd d (storedH xs k a v)->Heap.SameBut d s.heap h'->Q v {s with heap:=h',toks:=s.toks+knd.draws k})
  (hsz:xs.length<=AN):
  AI (AG prog w) A (dictSetDefault d (.ref a) v) Q E s:=by
 obtain⟨o,es,ep,ho,hc,hd,he,his,hn⟩:=hm;unfold dictSetDefault
 try with_reducible refine AV ?_
 refine AA<|knd.pyHash hu hkey ?_;refine AA<|wpAny_dictFind_heap (s:={s with toks:=s.toks+knd.draws k}) hu hkey ho hd he his hn ?_ ?_
 ·intro hno;have hnot:k∉xs.map (·.1):=not_mem_keys_of_get hno
  refine AA (wpAny_rule (AA (wpAny_updateDictKeys (hz:=by have e:=Ay he; omega) (s:={s with toks:=s.toks+knd.draws k}) ho hd (AB (hnew (atKey_none_of_get hno) _ ⟨_,_,ep+1,fV _ ho (Obj.isFreed_of_dict (Obj.data_mapDictKeys hd _)),
   hc.mapDictKeys _,Obj.data_mapDictKeys hd _, ?_, ?_, ?_⟩ (Heap.SameBut.update ..))))))
  ·rw[storedH_new<|atKey_none_of_get hno];simp[he,entryOfKey]
  ·rw[storedH_new<|atKey_none_of_get hno];intro x hx
   rcases aU.mp hx with hx|hx
   ·exact knd.keeps (his x hx) ho hd<|Heap.SameBut.update ..
   ·simp only[aN] at hx;subst hx;exact knd.keeps hkey ho hd<|Heap.SameBut.update ..
  ·rw[storedH_new<|atKey_none_of_get hno];rw[aJ,bK];refine⟨hn,by simp, ?_⟩;intro x hx y hy;simp only[aZ,fD,aN] at hy;subst hy;exact λe=>hnot<|e▸hx
 ·intro j p hj;refine AA<|Am (s:={s with toks:=s.toks+knd.draws k}) ho hd ?_;rw[entry_at he j,hj];have:=hold p.2 (by rw[atKey_of_get hn hj];rfl);exact AA (wpAny_rule<|AB this)
end
section
variable {prog:AD}{w:AL}{K:Type}[DecidableEq K](knd:HeapKind prog w K)(d a:BJ)
theorem sL(hd:(d==An)=false)(dflt:BH):
  MeetsIn prog w (Builtin.«dict.setdefault» ⟨[.ref d, .ref a,dflt],[]⟩) (fun A R s=>knd.room A.in1∧∃k xs,knd.is s.heap k a∧s.heap.DictOfH knd d xs∧xs.length≤AN∧
   (∀u,(atKey xs k).map (·.2)=some u->R (.ok<|.ret u) {s with toks:=s.toks+knd.draws k})/\
   (atKey xs k=none->∀h',h'.DictOfH knd d (storedH xs k a dflt)->Heap.SameBut d s.heap h'->R (.ok (.ret dflt)) {s with heap:=h',toks:=s.toks+knd.draws k})):=
 .of_wp λA R s ⟨hu,k,xs,hkey,hm,hz,h1,h2⟩=>by unfold Builtin.«dict.setdefault»;refine AA ?_;unfold Builtin.Dict.keyAndDefault;refine AA<|BA hm.typeIs ?_;show AI _ _ (pure (d,Value.ref a,some dflt)) _ _ s;refine AB ?_;show AI _ _ (if(d==An)=true then _ else(dictSetDefault d (.ref a) dflt>>=_)) _ _ s;rw[if_neg<|by rw[hd];exact bY];exact AA<|qO (hsz:=hz) hu hkey hm (λv hv=>AB ⟨v,rfl,h1 v hv⟩) λhn h' hm' hs'=>AB ⟨dflt,rfl,h2 hn h' hm' hs'⟩
end
variable {to:TE}{t:TA}{name:Str}{apos cpos:Pos}{id:String}{r:V->List V->Hp->VK->Prop}
theorem aMd(pa:PlainAttrs "dict")(slot:PySem.Slot "dict" name id)(hty:typeOf (.builtin id)=pure (.type "method_descriptor"))(hm:MtR X id r)(ho:PE X o to)(ha:PA X (e::es) t)
  (hbase:attributeBase o name X.env (eval o X.env)=eval o X.env:=by rfl)
  (hfew:((Au cpos (AF (e::es) X.env)).all (fun x=> !x.1) && (backToKw cpos (keywordEach [] X.env)).all (fun x=>x.1.isSome)
  &&decide ((e::es).length+([]:List Keyword).length+(if([]:List Keyword).isEmpty then 0 else 1)<30))=true:=by rfl)
  (hline:(apos.endLine==cpos.line)=true:=by rfl) (hs:AF (e::es) X.env=(false,eval e X.env)::AF es X.env:=by rfl) (hplain:(Au cpos<|AF es X.env).any (·.1)=false:=by rfl):
  PE X (.Call (.Attribute o name apos) (e::es) [] cpos) (λσ H Q=>to σ H λx H1=>(∃l ob,x=.ref l/\H1 l=some (exO l ob)/\ob.ExactDict)/\t σ H1 λxs H2=>r x xs H2 Q):=by
 intro pins s σ H Q I h;refine wpAny_Call_method_late hbase hfew hline rfl<|thn (ho pins s σ H _ I h) λv s1 ⟨x,H1,I1,r1,⟨l,ob,e1,e2,e3⟩,q1⟩=> ?_;subst e1;obtain rfl:v=Value.ref l:=r1;have hg:s1.heap.get? l=some ob:=(I1.hok l _ e2).1;refine⟨"dict",id,pa,slot,hty,⟨ob,hg,e3.1⟩,λa q=> ?_, ?_⟩
 ·cases q;exact⟨ob,hg,e3.2.1⟩
 have hA:=ha cpos pins s1 σ H1 _ I1 q1;rw[hs] at hA ⊢;refine Calls.callWith_builtin (by show(false||(Au cpos<|AF es X.env).any (·.1))=false;rw[hplain]<;>rfl)<|Calls.evalArgs_plain ?_;exact thn hA λus s2 ⟨vs,H2,I2,r2,q2⟩=>hm pins s2 σ H2 (.ref l) vs (.ref l) us Q I2 rfl r2 q2
def rSD(X:Cx):V->List V->Hp->VK->Prop:=λx vs H Q=>∃ (F:Hp) (l ad:BJ) (k:List Key) (y:V) (o:BM) (kvs:List (List Key×V)),x=.ref l/\vs=[.ref ad,y]/\Same F H/\H l=some (exO l o)/\F ad=some (.tup<|k.map kV)/\X.A.units+1<AQ/\
 TDo X.prog X.w F l o kvs/\kvs.length+1<=AN/\(∀z,lQ kvs k=some z->Q z H)/\(lQ kvs k=none->∀o',(∀v,o'.data≠ .cell v)->TDo X.prog X.w F l o' (kvs++[(k,y)])->Q y (upd H l<|exO l o'))
theorem aPd:MtR X "dict.setdefault" (rSD X):=by
 intro pins s σ H x vs v us Q I rx rv h;obtain⟨F,l,ad,k,y,o,kvs,rfl,rfl,sF,hl,ha,hu,⟨z,hm,ts,kt,es,ep,t1,t2,t3,t4⟩,hz1,q1,q2⟩:=h;obtain rfl:v=Value.ref l:=rx;cases rv with
 |cons r1 rv=>
  obtain⟨u,rfl,ru⟩:=Vals.one rv;rename_i b;obtain rfl:b=Value.ref ad:=r1;have ho:s.heap.get? l=some o:=(I.hok l _ hl).1;have ktH:KT H kvs ts:=kt.keeps λb ys e=>sF _ _ e
  have dd:s.heap.DictOfH (Aq<|fJ X.prog X.w) l ts:=⟨o,es,ep,ho,t1,t2,t3,KT.all I.hok ktH,t4⟩;have hz:ts.length<=AN:=by rw[<-Paired.length kt];exact z
  refine call_meetsIn vC dd.typeIs PySem.F.entry_dict_setdefault (PySem.F.args_dict_setdefault_3 _ _ _) (sL (Aq<|fJ X.prog X.w) l ad hm u) ⟨BG hu,k,ts,tW I.hok<|sF _ _ ha,dd,hz,λw' hw=> ?_,λhn h' dd' hsm=> ?_⟩
  ·have rl:=ktH.val k;rw[hw] at rl;cases hv:lQ kvs k with
   |none=>rw[hv] at rl;cases rl
   |some z'=>rw[hv] at rl;exact⟨z',H,I.tok _,rl,q1 z' hv⟩
  ·have hn':lQ kvs k=none:=by
    have rl:=ktH.val k;rw[hn] at rl;cases hv:lQ kvs k with
    |none=>rfl
    |some z'=>rw[hv] at rl;cases rl
   obtain⟨q,es',ep',hq,u2,u3,u4,_,u5⟩:=dd';have I4:=vR (t':=s.toks+(Aq<|fJ X.prog X.w).draws k) I (ob:=exO l q) (by rw[hl];exact True.intro) hsm ⟨q,hq⟩<|xP hq;have kt':=kt.put k ha ru;rw[wO y hn'] at kt';exact⟨y,_,I4,ru,q2 hn' q (λv z=>by rw[u3] at z;cases z) ⟨by rw[aQ];exact hz1,hm,_,kt',es',ep',u2,u3,u4,u5⟩⟩
def Gg(P:AD)(w:AL)(K:aB)(l:BJ)(ks:List (List Key))(ls:List BJ)(dss:List (List D)):V->Hp->Hp->Prop:=λv F H=>v=.ref l/\(∃o,H l=some (exO l o)/\(∀v,o.data≠ .cell v)/\ks.length=ls.length/\TDo P w F l o (ks.zip<|ls.map V.ref))/\InD K F H ls dss
noncomputable def odG(P:AD)(w:AL)(K:aB)(l:BJ)(ks:List (List Key))(ls:List BJ)(dss:List (List D)):Slot:=.ox (l::ls)<|Gg P w K l ks ls dss
theorem zR:∀ {ks:List (List Key)}{xs:List V}{k:List Key}{z:V},lQ (ks.zip xs) k=some z->∃n:Nat,ks[n]? =some k/\xs[n]? =some z
 |[],_,_,_,h=>by cases h
 |_::_,[],_,_,h=>by cases h
 |j::js,y::ys,k,z,h=>by
  rw[eW] at h
  by_cases e:j=k
  ·rw[oF (p:=(j,y)) e] at h;exact⟨0,by simp[e],by simpa using h⟩
  ·rw[lP (p:=(j,y)) (k:=k) e] at h;obtain⟨n,h1,h2⟩:=zR h;exact⟨n+1,by simpa using h1,by simpa using h2⟩
theorem aEi:∀ {ks:List (List Key)}{xs:List V}{k:List Key},ks.length=xs.length->lQ (ks.zip xs) k=none->k∉ks
 |[],_,_,_,_=>by simp
 |_::_,[],_,h,_=>by cases h
 |j::js,y::ys,k,hl,h=>by
  rw[eW] at h
  by_cases e:j=k
  ·rw[oF (p:=(j,y)) e] at h;cases h
  ·rw[lP (p:=(j,y)) (k:=k) e] at h;have:=aEi (Nat.succ.inj hl) h;exact λhm=>(aW.mp hm).elim (λq=>e q.symm) this
theorem aFT{z:Slot}(h:sd[i]? =some z):sd.set i z=sd:=by obtain⟨hi,e⟩:=aK.mp h;rw[<-e,aDo]
theorem jE(S:StF K H₀ F H σ sd)(hs:sd[i]? =some (odG P w K l ks ls dss)):σ[i]? =some (some<|.ref l)/\(∀a∈l::ls,F a=none)/\(∃o,H l=some (exO l o)/\(∀v,o.data≠ .cell v)/\ks.length=ls.length/\TDo P w F l o (ks.zip<|ls.map V.ref))/\InD K F H ls dss/\(l::ls).Nodup:=by
 obtain⟨o,h1,v,h2,h3,h4⟩:=S.slots.get hs;obtain⟨e,q1,q2⟩:=h4 F H (Same.refl _) λ_ _ _ q=>q
 subst e h2;exact⟨h1,λa ha=>(h3 a ha).1,q1,q2,yI S.nd hs⟩
theorem wJ{o:BM}(hF:∀a∈l::ls,F a=none)(h1:H l=some (exO l o))(nc:∀v,o.data≠ .cell v)(hl:ks.length=ls.length)(t:TDo P w F l o (ks.zip<|ls.map V.ref))(h2:InD K F H ls dss):jB K F H (odG P w K l ks ls dss) (some<|.ref l):=by
 refine⟨.ref l,rfl,λa ha=>⟨hF a ha, ?_⟩,λF' H' s k=>⟨rfl,⟨o,k _ aH _ h1,nc,hl,t.mono s⟩,h2.mono2 s λa ha=>k a<|aI _ ha⟩⟩
 rcases aW.mp ha with rfl|ha
 ·exact⟨_,h1,o,rfl,nc⟩
 ·obtain⟨xs,e⟩:=h2.of a ha;exact⟨.lst xs,e,trivial⟩
theorem StF.wrG{t:Nat}{a:BJ}{es:List D}{ys:List V}(S:StF K H₀ F H σ sd)(hs:sd[i]? =some (odG P w K l ks ls dss))(ht:ls[t]? =some a)(r:RepL K F es ys):StF K H₀ F (upd H a<|.lst ys) σ (sd.set i (odG P w K l ks ls<|dss.set t es)):=by
 obtain⟨g1,g2,⟨o,g3,nc,hl,td⟩,g4,g5⟩:=jE S hs;obtain⟨n1,n2⟩:=cC.mp g5;have ma:=bD ht
 refine S.reX (z':=odG P w K l ks ls (dss.set t es)) hs g1 (fun b ob hb q=> ?_) (aKa S.smp a) (wJ g2 (by
  rw[bV (show l≠a from λz=>n1<|z▸ma)]
  exact g3) nc hl td (g4.set n2 ht r)) g5 λb hb=>.inl hb
 rw[bV (show b≠a from λz=>hb<|z▸aI _ ma)];exact q
theorem InD.snoc{a:BJ}:∀ {as:List BJ}{dss:List (List D)},InD K F H as dss->H a=some (.lst [])->InD K F H (as++[a]) (dss++[[]])
 |[],[],_,e=>⟨⟨[],e,.nil⟩,trivial⟩
 |[],_::_,h,_=>h.elim
 |_::_,[],h,_=>h.elim
 |_::_,_::_,h,e=>⟨h.1,InD.snoc h.2 e⟩
theorem StF.newG{a:BJ}{o:BM}(S:StF K H₀ F H σ sd)(hs:sd[i]? =some (odG P w K l ks ls dss))(fa:F a=none)(ha:H a=some (.lst []))(na:a∉cQ sd)(nc:∀v,o.data≠ .cell v)(td:TDo P w F l o (ks.zip (ls.map V.ref)++[(k,.ref a)])):
  StF K H₀ F (upd H l<|exO l o) σ (sd.set i (odG P w K l (ks++[k]) (ls++[a])<|dss++[[]])):=by
 obtain⟨g1,g2,⟨o',g3,nc',hl,_⟩,g4,g5⟩:=jE S hs;obtain⟨n1,n2⟩:=cC.mp g5;have ml:∀b∈l::ls,b∈cQ sd:=λb hb=>eI.mpr ⟨_,bD hs,hb⟩
 have al:a≠l:=λz=>na<|z▸ml l aH
 have als:a∉ls:=λz=>na (ml a<|aI _ z)
 have sp:∀b,b∈l::(ls++[a])->b∈l::ls\/b=a:=λb hb=>by
  rcases aW.mp hb with h|h
  ·exact .inl<|h▸aH
  ·rcases aU.mp h with h|h
   ·exact .inl<|aI _ h
   ·exact .inr<|aN.mp h
 refine S.reX (z':=odG P w K l (ks++[k]) (ls++[a])<|dss++[[]]) hs g1 (λb ob hb q=> ?_) (oH S.smp l) (wJ (λb hb=> ?_) cG nc (by rw[aQ,aQ,hl];rfl) ?_ ?_) ?_ λb hb=> ?_
 ·rw[bV (show b≠l from λz=>hb<|z▸aH)];exact q
 ·rcases sp b hb with h|rfl
  ·exact g2 b h
  ·exact fa
 ·rw[aJ,aZ,fD,tS<|by rw[aA];exact hl];exact td
 ·refine InD.snoc (g4.mono2 (Same.refl _) λb hb ob q=> ?_) ?_
  ·rw[bV (show b≠l from λz=>n1<|z▸hb)];exact q
  ·rw[bV al];exact ha
 ·show(l::(ls++[a])).Nodup;refine cC.mpr ⟨λh=> ?_,bK.mpr ⟨n2,by simp,λb hb c hc e=>als<|aN.mp hc▸e▸hb⟩⟩
  rcases aU.mp h with h|h
  ·exact n1 h
  ·exact al (aN.mp h).symm
 ·rcases sp b hb with h|rfl
  ·exact .inl h
  ·exact .inr na
theorem aGj(i:Nat){x:Str}{p p2:Pos}(hN:X.N.Nodup)(hi:X.N[i]? =some x)(hx:Loc X.env.scope x)(hE:∀l,E.nx (sd.set i<|odG X.prog X.w X.K l [] [] []))(hs:Ag (.Dict [] [] p2) (some<|.Name x p) pos.line X.env=pure false:=by rfl)
  (hf:X.fn x=true\/X.env.scope.names.lookup x=some .local:=by first|exact .inl rfl|exact .inr rfl|assumption):PSd1 X sd (.Assign [.Name x p] (.Dict [] [] p2) pos) E:=.mk λσ F H S=>
 (uI hN hi hx aBN hs hf).to λq hq hm=>by
  have fp:F q=none:=S.sub.free hq
  have no:q∉cQ sd:=λhl=>by obtain⟨_,ob,h,_⟩:=S.slots.owns hl;rw[hq] at h;cases h
  have S1:StF X.K X.B₀ F (upd H q<|exO q aGI) σ sd:=by
   refine⟨S.base,λb u e=> ?_,oH S.smp q,S.slots.mono (Same.refl _) λl hl=> ?_,S.nd⟩
   ·rw[bV<|cS e fp];exact S.sub _ _ e
   ·obtain⟨n,ys,y,_⟩:=S.slots.owns hl;have hne:l≠q:=cS y hq;exact⟨n,λys e=>by rw[bV hne];exact e⟩
  refine⟨_,F,S1.setT i (wJ (P:=X.prog) (w:=X.w) (K:=X.K) (ks:=[]) (ls:=[]) (dss:=[]) (λa ha=>by rw[aN.mp ha];exact fp) cG (λv z=>by cases z) rfl ⟨bW _,hm,[],.nil, #[],0,⟨rfl,rfl,rfl⟩,rfl,rfl,eV⟩ trivial) (by simp) λa ha=> ?_,Same.refl _,hE q⟩;rw[aN.mp ha];exact no
theorem aFu(i:Nat){x:Str}{p ap1 cp1 p5 ap cp:Pos}(hu:X.A.units+1<AQ)(hs:sd[i]? =some (odG X.prog X.w X.K l ks ls dss))(hx:PE X (.Name x p) (mW i))(hb:PEd X sd b (.val (.tup<|k.map kD)))(h:∀z,PEd X (sd.set i z) e<|.val d)(hl:dss.length<=1000)(hl2:∀ds∈dss,ds.length<=1000)
  (hE1:∀n ds,ks[n]? =some k->dss[n]? =some ds->E.nx (sd.set i<|odG X.prog X.w X.K l ks ls (dss.set n<|ds++[d])))
  (hE2:k∉ks->∀a,E.nx<|sd.set i (odG X.prog X.w X.K l (ks++[k]) (ls++[a])<|dss++[[d]]))
  (hm:PE X (.Call (.Attribute (.Call (.Attribute (.Name x p) "setdefault" ap1) [b, .List [] p5] [] cp1) "append" ap) [e] [] cp)
   (tBM X.K "list" vQ (λσ H Q=>mW i σ H λx H1=>(∃l ob,x=.ref l/\H1 l=some (exO l ob)/\ob.ExactDict)/\(qT (wE X b) (qT (wE X (.List [] p5)) aIf)) σ H1 λxs H2=>rSD X x xs H2 Q) (qT (wE X e) aIf)):=by exact aJL oR zN zO aAn (aMd aAC vC PySem.F.type_dict_setdefault aPd (pv _) (iH gP (iH gP pa_nil))) (iH gP pa_nil))
  (hsw:Ag (.Call (.Attribute (.Call (.Attribute (.Name x p) "setdefault" ap1) [b, .List [] p5] [] cp1) "append" ap) [e] [] cp) none pos.line X.env=pure false:=by rfl):
  PSd1 X sd (.Expr (.Call (.Attribute (.Call (.Attribute (.Name x p) "setdefault" ap1) [b, .List [] p5] [] cp1) "append" ap) [e] [] cp) pos) E:=.mk λσ F H S=>
 (vG hm hsw).to (by
  obtain⟨h1,h2,⟨o,h3,nc,hk,td⟩,h4,h5⟩:=jE S hs;have il:i<sd.length:=(aK.mp hs).1
  have fin:∀ (F2 H2:Hp) (ks2:List (List Key)) (ls2:List BJ) (dss2:List (List D)) (n:Nat) (ad:BJ) (ds:List D),StF X.K X.B₀ F2 H2 σ (sd.set i<|odG X.prog X.w X.K l ks2 ls2 dss2)->Same F F2->ls2[n]? =some ad->dss2[n]? =some ds->ds.length<=1000->E.nx (sd.set i<|odG X.prog X.w X.K l ks2 ls2 (dss2.set n<|ds++[d]))->
    tyV X.K "list" (.ref ad) H2/\(qT (wE X e) aIf) σ H2 λxs H3=>vQ (.ref ad) xs H3 λ_ H4=>(lft X F E).nx σ H4:=λF2 H2 ks2 ls2 dss2 n ad ds S2 s2 hn hd hdl hE=>by
   have hs2:(sd.set i<|odG X.prog X.w X.K l ks2 ls2 dss2)[i]? =some (odG X.prog X.w X.K l ks2 ls2 dss2):=pO il;obtain⟨g1,g2,_,g4,g5⟩:=jE S2 hs2;obtain⟨ds',xs,e1,e2,e3⟩:=g4.get hn;refine⟨.inl ⟨rfl,xs,.of e2⟩,(h _ σ F2 H2 S2).imp λv H3 ⟨F3,S3,s3,q3⟩=> ?_⟩;obtain⟨f1,f2,_,f4,f5⟩:=jE S3 hs2;obtain⟨ds3,xs3,u1,u2,u3⟩:=f4.get hn;rw[hd] at u1;cases u1;have W:=S3.wrG (es:=ds++[d]) (ys:=xs3++[v]) hs2 hn (u3.app<|.one q3);rw[kS] at W;exact⟨ad,xs3,v,rfl,rfl,u2,by rw[u3.len] ;exact gQ hdl,_,F3,W,s2.trans s3,hE⟩
  refine⟨.ref l,h1,⟨l,o,rfl,h3,td.2.2.choose_spec.2.choose_spec.choose_spec.1⟩,(hb σ F H S).imp λv1 H1 ⟨F1,S1,s1,q1⟩=>((hG (ds:=[]) aO (bW _):PEd X sd (.List [] p5) (.own [])) σ F1 H1 S1).imp λv2 H2 ⟨F2,S2,s2,q2⟩=> ?_⟩;obtain⟨g1,g2,⟨o2,g3,nc2,hk2,td2⟩,g4,g5⟩:=jE S2 hs;simp only[ResOk,Rep] at q1;obtain⟨ad,ys,rfl,ha,rl⟩:=q1;rw[pS rl] at ha;obtain⟨a,xs,rfl,fa,ha2,rl2,na⟩:=q2;have xn:xs=[]:=fR (by rw[rl2.len];rfl);subst xn;have zl:(ks.zip<|ls.map V.ref).length=dss.length:=by rw[kM,aA,<-hk2,qA,hk2,g4.len]
  refine⟨F2,l,ad,k,.ref a,o2,ks.zip<|ls.map V.ref,rfl,rfl,S2.sub,g3,s2 _ _ ha,hu,td2,by rw[zl];have:=gQ hl;omega,λz hz=> ?_,λhz o' nc' td'=> ?_⟩
  ·obtain⟨n,e1,e2⟩:=zR hz;rw[bA] at e2;obtain⟨an,e3,rfl⟩:=iV.mp e2;obtain⟨ds,xs,d1,d2,d3⟩:=g4.get e3;have S2':StF X.K X.B₀ F2 H2 σ (sd.set i<|odG X.prog X.w X.K l ks ls dss):=by rw[aFT hs];exact S2
   exact fin F2 H2 ks ls dss n an ds S2' (s1.trans s2) e3 d1 (hl2 ds<|bD d1)<|hE1 n ds e1 d1
  ·have S3:=S2.newG hs fa ha2 na nc' td';have hE:=hE2 (aEi (by rw[aA];exact hk2) hz) a;have en:(dss++[[]]).set dss.length ([]++[d])=dss++[[d]]:=by simp
   exact fin F2 _ (ks++[k]) (ls++[a]) (dss++[[]]) dss.length a [] S3 (s1.trans s2) (by rw[<-g4.len];simp) (by simp) (bW _) (by rw[en];exact hE))
noncomputable def oI(p:Int×Int)(ws:List Int):Nat:=(uV (2^p.1.toNat) ws).toNat
theorem yN{p:Int×Int}(hp:p∈bR){ws:List Int}(G:Fil p ws):uV (2^p.1.toNat) ws=(oI p ws:Int)/\oI p ws<(bT p).length/\(bT p).getD (oI p ws) []=ws:=by have h:=aIO<|aMe p hp;obtain⟨a,b,c⟩:=aNa h G.len G.wd;refine⟨by unfold oI;omega, ?_,c⟩;show _<(iW _ _).length;rw[h.len];exact b
theorem yS{p:Int×Int}(hp:p∈bR)(hi:i<(bT p).length):oI p ((bT p).getD i [])=i:=by
 have h:=aIO<|aMe p hp;have hi':i<2^(p.1.toNat*p.2.toNat):=by rw[<-h.len];exact hi
 have:=(h.at_ i hi').2.2.1;unfold oI;show(uV (2^p.1.toNat)<|(iW (2^p.1.toNat) p.2.toNat).getD i []).toNat=i;rw[this];exact dO i
def aOY(A:BK)(s:BI)(x y:BH)(b:Bool):Prop:=∀ (prog:AD) (w:AL) (E:BH->BI->Prop) (Q:BH->BI->Prop),Q (.bool b) s->AI (AG prog w) A (richCompare .Lt x y) Q E s
inductive aGG(A:BK)(s:BI)(fin:Bool):List (BH×BH)->Bool->Prop
 |nil:aGG A s fin [] fin
 |eq {x y:BH}{r:List (BH×BH)}{b:Bool}:SeqAt.EqAt A.in1 s x y true->aGG A s fin r b->aGG A s fin ((x,y)::r) b
 |lt {x y:BH}{r:List (BH×BH)}{b:Bool}:SeqAt.EqAt A.in1 s x y false->aOY A.in1 s x y b->aGG A s fin ((x,y)::r) b
section
open PySem.SeqAt
open PySem.AutoSeq1 (wpAny_loadPart')
open PySem.MeetsSeq PySem.MeetsSeq2 PySem.MeetsSeq3
theorem aAy(l b:BJ)(items items2:Array BH)(n n2:Nat)(dd dd2:Option BJ)(sl sl2:Array (Option BH))(res:Bool):
  Meets (Builtin.«tuple.__lt__» ⟨[.ref l,.ref b],[]⟩)
   (fun A R s=>s.heap.get? l=some {cls:= .type "tuple",dict:=dd,data:= .seq items n,slots:=sl}∧s.heap.get? b=some {cls:= .type "tuple",dict:=dd2,data:= .seq items2 n2,slots:=sl2}∧
    aGG A s (decide (items.size<items2.size)) (items.toList.zip items2.toList) res/\R (.ok (.ret (.bool res))) s):=
 .of_wp λprog w A R s h=>by
  obtain⟨hp,g,d,tk,os⟩:=s;obtain⟨hl,hb,hx,h⟩:=h;have f2:=AutoSeq1.sub_tuple_tuple
  wp_walk using wpAny_loadPart' hl,wpAny_loadPart' hb,wpAny_forIn_list _ (λrest b s'=>b.1=none/\s'=⟨hp,g,d,tk,os⟩/\aGG A ⟨hp,g,d,tk,os⟩ (decide<|items.size<items2.size) rest res) _
  case turn=>
   rintro⟨y,x⟩ rest b s' ⟨hb',rfl,hv⟩;cases hv with
   |eq he hr=>
    refine AA<|he prog w _ _ ?_
    wp_walk
    exact⟨rfl,rfl,hr⟩
   |lt he hlt=>
    refine AA<|he prog w _ _ ?_;have hri:=hlt prog w
    wp_walk using hri
    exact⟨_,rfl,by simpa using h⟩
  case fin=>
   rintro⟨b1,b2⟩ s' ⟨hb',rfl,hv⟩;simp only at hb';subst hb';cases hv
   wp_walk
   exact⟨_,rfl,by simpa[Builtin.Tuple.tupleCompareSizes] using h⟩
  case h=>exact⟨rfl,rfl,hx⟩
theorem aCU{A:BK}{s:BI}{l b:BJ}{items items2:Array BH}{res:Bool}(hl:IsTup s.heap l items)(hb:IsTup s.heap b items2)(hx:aGG A s (decide<|items.size<items2.size) (items.toList.zip items2.toList) res)
  (hu:A.units<AQ):aOY A s (.ref l) (.ref b) res:=λprog w E Q h=>by
 obtain⟨⟨cls,dd,data,sl⟩,ho,hc,n,hd⟩:=id hl;obtain⟨⟨cls2,dd2,data2,sl2⟩,ho2,hc2,n2,hd2⟩:=id hb;simp only at hc hd hc2 hd2;subst hc hd hc2 hd2
 exact richCompare_meets_room (op:= .Lt) ⟨_,ho,rfl⟩ ⟨_,ho2,rfl⟩ PySem.F.slot_tuple_lt PySem.F.entry_tuple_lt (PySem.F.args_tuple_lt_2 _ _) (aAy l b items items2 n n2 dd dd2 sl sl2 res)
  ⟨ho,ho2,hx,show Value.bool res≠Value.notImplemented/\Q (.bool res) s from⟨(λx=>nomatch x),h⟩⟩ hu
end
mutual
noncomputable def dlt:D->D->Bool
 |.int a,.int b=>decide<|a<b
 |.tup a,.tup b=>qQ a b
 |_,_=>false
noncomputable def qQ:List D->List D->Bool
 |[],[]=>false
 |[],_::_=>true
 |_::_,[]=>false
 |d::ds,e::es=>if deq d e=true then qQ ds es else dlt d e
end
mutual
noncomputable def rV:D->D->Bool
 |.int _,.int _=>true
 |.tup a,.tup b=>zK a b
 |_,_=>false
noncomputable def zK:List D->List D->Bool
 |[],_=>true
 |_::_,[]=>true
 |d::ds,e::es=>rV d e&&zK ds es
end
mutual
theorem aIx(hok:HOk P w H s.heap):∀ (d:D) {d2:D}{v1 v2:V}{u1 u2:BH}{A:BK},rV d d2=true->pl d=true->pl d2=true->Rep K H d v1->Rep K H d2 v2->RelV v1 u1->RelV v2 u2->A.units+dep d<AQ->aOY A s u1 u2 (dlt d d2)
 |.int a,d2,v1,v2,u1,u2,A,c,p1,p2,r1,r2,ru1,ru2,hu=>by
  cases d2 with
  |int b=>simp only[Rep] at r1 r2;subst r1 r2;obtain⟨t,rfl⟩:=ru1;obtain⟨t2,rfl⟩:=ru2;simp only[dlt];exact λprog w E Q h=>(PyProof.Rows.lt_int h:AI (AG prog w) A (AS .Lt (.int a t)<|.int b t2) Q E s)
  |_=>simp[rV] at c
 |.tup ds,d2,v1,v2,u1,u2,A,c,p1,p2,r1,r2,ru1,ru2,hu=>by
  cases d2 with
  |tup es=>
   obtain⟨a,xs,its,rfl,rfl,rl,rv,ht⟩:=jA hok r1 ru1;obtain⟨b,ys,jts,rfl,rfl,rl2,rv2,ht2⟩:=jA hok r2 ru2;simp only[dlt];have l1:its.length=ds.length:=by rw[<-rv.length,rl.len]
   have l2:jts.length=es.length:=by rw[<-rv2.length,rl2.len]
   simp only[pl] at p1 p2;simp only[dep] at hu;simp only[rV] at c;refine aCU ht ht2 ?_ (by omega);exact aDM hok ds c p1 p2 rl rl2 rv rv2 (by omega) (by simp[l1,l2])
  |_=>simp[rV] at c
 |.non,d2,_,_,_,_,_,c,_,_,_,_,_,_,_=>by cases d2<;>simp[rV] at c
 |.bl _,d2,_,_,_,_,_,c,_,_,_,_,_,_,_=>by cases d2<;>simp[rV] at c
 |.str _,d2,_,_,_,_,_,c,_,_,_,_,_,_,_=>by cases d2<;>simp[rV] at c
 |.lst _,d2,_,_,_,_,_,c,_,_,_,_,_,_,_=>by cases d2<;>simp[rV] at c
 |.dic,d2,_,_,_,_,_,c,_,_,_,_,_,_,_=>by cases d2<;>simp[rV] at c
 |.dki _ _,d2,_,_,_,_,_,c,_,_,_,_,_,_,_=>by cases d2<;>simp[rV] at c
 |.any _,d2,_,_,_,_,_,c,_,_,_,_,_,_,_=>by cases d2<;>simp[rV] at c
 |.scr _,d2,_,_,_,_,_,c,_,_,_,_,_,_,_=>by cases d2<;>simp[rV] at c
theorem aDM(hok:HOk P w H s.heap):∀ (ds:List D) {es:List D}{xs ys:List V}{its jts:List BH}{A:BK}{fin:Bool},zK ds es=true->plL ds=true->plL es=true->RepL K H ds xs->RepL K H es ys->Vals xs its->Vals ys jts->A.units+1+jT ds<AQ->fin=decide (ds.length<es.length)->aGG A s fin (its.zip jts) (qQ ds es)
 |[],es,xs,ys,its,jts,A,fin,c,p1,p2,r1,r2,v1,v2,hu,hf=>by
  simp only[RepL] at r1;subst r1;cases v1;subst hf;rw[aJo];cases es with
  |nil=>exact .nil
  |cons e es=>
   have:qQ [] (e::es)=decide (([]:List D).length<(e::es).length):=by simp[qQ]
   rw[this];exact .nil
 |d::ds,[],xs,ys,its,jts,A,fin,c,p1,p2,r1,r2,v1,v2,hu,hf=>by
  simp only[RepL] at r2;subst r2;cases v2;subst hf;rw[aHZ];have:qQ (d::ds) []=decide ((d::ds).length<([]:List D).length):=by simp[qQ]
  rw[this];exact .nil
 |d::ds,e::es,xs,ys,its,jts,A,fin,c,p1,p2,r1,r2,v1,v2,hu,hf=>by
  obtain⟨x,xs,rfl,a1,r1⟩:=r1.uncons;obtain⟨y,ys,rfl,a2,r2⟩:=r2.uncons;simp only[plL,bC] at p1 p2;simp only[zK,bC] at c;simp only[jT] at hu;cases v1 with
  |cons q1 v1=>
   cases v2 with
   |cons q2 v2=>
    rw[eW];have he:=aBA (A:=A.in1) hok d p1.1 p2.1 a1 a2 q1 q2 (by show A.units+1+dep d<AQ;omega);simp only[qQ]
    by_cases z:deq d e=true
    ·rw[if_pos z];rw[z] at he;exact .eq he (aDM hok ds c.2 p1.2 p2.2 r1 r2 v1 v2 (by omega)<|by rw[hf];simp)
    ·rw[if_neg z];rw[gY.mpr z] at he;exact .lt he (aIx (A:=A.in1) hok d c.1 p1.1 p2.1 a1 a2 q1 q2<|by show A.units+1+dep d<AQ;omega)
end
section
variable {prog:AD}{w:AL}{A:BK}{E:BH->BI->Prop}{s:BI}
open HT
end
noncomputable def kY(ws:List Int):List Key:=ws.map Sum.inl
theorem kY_D(ws:List Int):D.tup ((kY ws).map kD)=bF ws:=by unfold kY bF;rw[aR];rfl
theorem aFm{f:Nat->Bool}{A:List (List Int)}:(rH f A).isNone=true↔∀j,j<A.length->f j=false:=by
 constructor
 ·intro h j hj;cases e:f j with
  |false=>rfl
  |true=>exfalso;unfold rH at h;rw[Option.isNone_map] at h;have:=iZ.mp (Option.isNone_iff_eq_none.mp h) j<|bP.mpr hj;exact this e
 ·intro h;rw[wR h];rfl
theorem nR(a:List Nat):(bJ a).length=a.length:=by unfold bJ;rw[aA]
noncomputable def shp{α β:Type}(n:β)(g:α->β):List Bool->List α->List β
 |[],_=>[]
 |false::m,as=>n::shp n g m as
 |true::m,[]=>n::shp n g m []
 |true::m,a::as=>g a::shp n g m as
def GO(K:aB)(m:List Bool)(l:BJ)(ls:List BJ)(dss:List (List D)):V->Hp->Hp->Prop:=λv F H=>v=.ref l/\H l=some (.lst<|shp V.non V.ref m ls)/\InD K F H ls dss
structure Exc(h0 h:BL)(H:Hp)(a T:BJ)(cls:BH):Prop where
 free:H a=none
 new:h0.get? a=none
 freeT:H T=none
 newT:h0.get? T=none
 obj:∃oe vs oT ts a0,h.get? a=some oe/\(oe.cls=cls/\vs[0]? =some a0)/\oe.data=.fields vs/\vs[1]? =some (.ref T)/\T≠a/\h.get? T=some oT/\oT.data=.fields ts/\ts[3]? =some .none
noncomputable def CX1(P:AD)(w:AL)(cls:BH):CXT:=λouter H s E e s'=>∃a T H',e=.ref a/\s'.os=s.os/\AllBare s'.gens/\Un (frs outer) [] H H' s.heap s'.heap/\HOk P w H' s'.heap/\Exc s.heap s'.heap H' a T cls/\E (.ref a) (some a) H'
end DL
namespace DL
open PySem PySem.Spec PySem.Calls PySem.W PyProof.Rows Builtin Builtin.Getset_descriptor Builtin.ObjectAttr
variable {prog:AD}{w:AL}{A:BK}{E:BH->BI->Prop}{h:BL}{g:Array GenState}{d:Drawn}{t:Nat}{os:OsState}{a C:BJ}{K:Frag}
structure XCls(K:Frag)(C:BJ):Prop where
 ha:findIn K (.ref C) "__class__"=some (some<|.builtin "object.__class__")
 hm:mroIn K C (.type "object")=some true
 hs:subIn K (.ref C) (.type "BaseException")=some true
 hg:findIn K (.ref C) "__getattribute__"=some (some<|.builtin "BaseException.__getattribute__")
 hn:findIn K (.ref C) "__getattr__"=some none
 hc:(clsIn K C).isSome=true
end DL
namespace DL
open PySem PySem.Spec PyProof.Rows L2
noncomputable def bmVE:List BH:=[.type "ValueError",.type "Exception",.type "BaseException",.type "object"]
variable {X:Cx}{sd:List Slot}{e a b c:Expr}{es:List Expr}{pos:Pos}{d:D}{ds:List D}{E:kE}
structure PEx(X:Cx)(sd:List Slot)(e:Expr):Prop where
 run:∀ (σ:St) (F H:Hp),StF X.K X.B₀ F H σ sd->wE X e σ H (λ_ _=>False)
noncomputable def spX(K:aB)(n:Nat)(C:List D->Prop):Sp:=λvs H _ E=>vs.length=n/\Smp H/\∃ds,RepL K H ds vs/\C ds/\∀a H',Same H H'->Smp H'->E (.ref a) (some a) H'
structure aQe(P:AD)(w:AL)(K:aB)(mg:Str->Option BH)(base:BL)(x:Str)(k n:Nat)(C:List D->Prop)(cls:BH)(dvs:List V)(dws:List BH):Prop where
 ex:∃ (f:BJ) (fd:AW) (ps:List Str),mg x=some (.ref f)/\eG K (.ref f)=true/\Binds K fd ps dws/\Vals dvs dws/\FnOk P w K mg base (CX1 P w cls) k f fd ps (spX K n C)
variable {pins:List (BJ×BM)}{σ:St}{F H:Hp}{s:BI}{a T:BJ}{cls:BH}{M:Model}{A:BK}{Ex:BH->BI->Prop}
structure Held(X:Cx)(pins:List (BJ×BM))(σ:St)(H:Hp)(s:BI)(a T:BJ)(cls fl:BH):Prop where
 inv:Inv X pins σ H s
 fa:H a=none/\X.s₀.heap.get? a=none/\∀p∈X.pn++pins,p.1≠a
 fT:H T=none/\X.s₀.heap.get? T=none/\∀p∈X.pn++pins,p.1≠T
 obj:∃oe vs oT ts a0,s.heap.get? a=some oe/\(oe.cls=cls/\vs[0]? =some a0)/\oe.data=.fields vs/\vs[1]? =some (.ref T)/\T≠a/\s.heap.get? T=some oT/\oT.data=.fields ts/\ts[3]? =some fl
variable {a:Expr}
noncomputable def spS(K:aB)(n:Nat)(G:V->Hp->Prop)(C:List D->Prop):Sp:=λvs H _ E=>vs.length=n/\Smp H/\∃v us ds,vs=v::us/\G v H/\RepL K H ds us/\C ds/\∀a H',Same H H'->Smp H'->E (.ref a) (some a) H'
structure aQc(P:AD)(w:AL)(K:aB)(mg:Str->Option BH)(base:BL)(x:Str)(k n:Nat)(G:V->Hp->Prop)(C:List D->Prop)(cls:BH):Prop where
 ex:∃ (f:BJ) (fd:AW) (ps:List Str),mg x=some (.ref f)/\eG K (.ref f)=true/\Binds K fd ps []/\FnOk P w K mg base (CX1 P w cls) k f fd ps (spS K n G C)
structure PSh(X:Cx)(sd:List Slot)(e:Expr)(G:V->Hp->Prop):Prop where
 run:∀ (σ:St) (F H:Hp),StF X.K X.B₀ F H σ sd->wE X e σ H λv H'=>∃F',StF X.K X.B₀ F' H' σ sd/\Same F F'/\G v F'
variable {s':BI}{tg iter:Expr}{Old:BJ->Prop}
structure ExcO(Old:BJ->Prop)(h:BL)(H:Hp)(a T:BJ)(cls:BH):Prop where
 free:H a=none
 new:¬ Old a
 freeT:H T=none
 newT:¬ Old T
 obj:∃oe vs oT ts a0,h.get? a=some oe/\(oe.cls=cls/\vs[0]? =some a0)/\oe.data=.fields vs/\vs[1]? =some (.ref T)/\T≠a/\h.get? T=some oT/\oT.data=.fields ts/\ts[3]? =some .none
def Ent(X:Cx):BJ->Prop:=λb=>∃o,X.s₀.heap.get? b=some o
def GI(K:aB)(l:BJ)(ks:List Key)(ls:List BJ)(dss:List (List D)):V->Hp->Hp->Prop:=λv F H=>v=.ref l/\H l=some (.dK (ks.zip<|ls.map V.ref))/\ks.length=ls.length/\InD K F H ls dss
def GW(K:aB)(m:List Bool)(l0 l:BJ)(ls:List BJ)(dss:List (List D)):V->Hp->Hp->Prop:=λv F H=>v=.ref l0/\H l0=some (.lst [.ref l,.int 0])/\H l=some (.lst<|shp V.non V.ref m ls)/\InD K F H ls dss
noncomputable abbrev Wnt:=List<|Option Int
noncomputable abbrev Exs:=List<|List Int×Wnt
noncomputable def bw:Option Int->Option Int->Option (Option Int)
 |none,b=>some b
 |some x,none=>some<|some x
 |some x,some y=>if y=x then some (some x) else none
structure EOk(p:Int×Int)(E:Exs):Prop where
 fil:∀x∈E,x.1∈bT p
 len:∀x∈E,x.2.length=p.2.toNat
 wd:∀x∈E,∀b w,x.2.getD b none=some w->0<=w/\w<((2^p.1.toNat:Nat):Int)
structure GOk(n:Nat)(E:Exs)(t:Nat)(G:List (List Int)×List Wnt):Prop where
 nd:G.1.Nodup
 ln:G.1.length=G.2.length
 mem:∀f,f∈G.1↔∃i,i<t/\(E.getD i ([],[])).1=f
 wl:∀u∈G.2,u.length=n
 has:∀i,i<t->∀b w,b<n->(E.getD i ([],[])).2.getD b none=some w->(G.2.getD (G.1.idxOf (E.getD i ([],[])).1) []).getD b none=some w
 from_:∀f∈G.1,∀b w,b<n->(G.2.getD (G.1.idxOf f) []).getD b none=some w->∃i,i<t/\(E.getD i ([],[])).1=f/\(E.getD i ([],[])).2.getD b none=some w
structure Xk34(K:aB)(mg:Str->Option BH)(CN:BJ):Prop where
 xc:XCls K CN
 ex:PySem.W.excIn K CN bmVE "ValueError.__new__"=true
 le:∃C:BJ,mg "LeastError"=some (.ref C)/\PySem.W.exmOne K (.ref CN) (.ref C)=some true
 nw:mg "NoWish"=some (.ref CN)/\gB K (.ref CN) (.ref CN)=some true
 ve:mg "ValueError"=none/\gB K (.ref CN) (.type "ValueError")=some true
 nc:∃C:BJ,mg "NoChange"=some (.ref C)/\gB K (.ref CN) (.ref C)=some false
 nt:∃C:BJ,mg "NoText"=some (.ref C)/\gB K (.ref CN) (.ref C)=some false
 nd:∃C:BJ,mg "NoWindow"=some (.ref C)/\gB K (.ref CN) (.ref C)=some false
 tg:∃C:BJ,mg "TooGreat"=some (.ref C)/\gB K (.ref CN) (.ref C)=some false
structure DOk(L:List (Nat×Int))(T:List Nat×List (List Int)):Prop where
 nd:T.1.Nodup
 ln:T.1.length=T.2.length
 mem:∀b,b∈T.1↔∃w,(b,w)∈L
 val:∀b∈T.1,∀w,w∈T.2.getD (T.1.idxOf b) []↔(b,w)∈L
 le:T.2.length<=L.length/\∀l∈T.2,l.length<=L.length
theorem aCr{bs:List Bool}{its:List BH}{i:Nat}{v:BH}(r:Vals (bs.map V.bl) its)(h:its[i]? =some v):∃b,bs[i]? =some b/\v=.bool b:=by
 have hi:i<its.length:=(aK.mp h).1;have hl:=r.length;rw[aA] at hl;have hb:i<bs.length:=by omega
 obtain⟨u,h1,h2⟩:=r.get (i:=i) (x:=.bl bs[i]) (by simp[hb]);rw[h] at h1;cases h1;exact⟨bs[i],by simp[hb],h2⟩
theorem aDe(bs:List Bool):((bO bs.length).all λi=>(bs[i]?).getD true)=bs.all id:=by
 apply gI.mpr;simp only[bZ,bP,id_eq]
 constructor
 ·intro h b hb;obtain⟨i,hi,rfl⟩:=dE hb;have:=h i hi;simpa[hi] using this
 ·intro h i hi;have:=h bs[i]<|eJ hi;simpa[hi] using this
theorem aGb(hc:X.calm=true):lY X (.builtin "all") (λxs H Q=>∃ (a:BJ) (bs:List Bool),xs=[.ref a]/\SqL X.K H a (bs.map V.bl)/\Q (.bl<|bs.all id) H):=by
 intro pins s σ H xs us Q I r h;obtain⟨a,bs,rfl,ha,q⟩:=h;obtain⟨u,rfl,ru⟩:=nN r;cases ru;obtain⟨its,rv,p,hz⟩:=I.list ha;have hl:=rv.length;rw[aA] at hl;have isl:s.heap.IsList a its.toArray:=p.isList;have alt:a<s.heap.objs.size:=by obtain⟨o,ho,_⟩:=isl;exact aS ho
 refine call_all_walk<|At isl ?_;refine⟨s.heap.objs.size,[s.heap.objs.size,a],[s.heap.objs.size],its.toArray.size,_,_,λi=>(bs[i]?).getD true,rfl,Walks.list (A:=X.A.in1) (I.ok.hd hc) _ a (bS alt) its.toArray,⟨⟨_,bG _ rfl,rfl,rfl⟩,isl.push _⟩,λi v s' Q' E' hP hQ=> ?_,λh' tk hk=> ?_⟩
 ·obtain⟨b,e,rfl⟩:=aCr rv (by simpa using hP);simp only[e,aIe] at hQ;exact Aa hQ
 ·have e:((bO its.toArray.size).all λi=>(bs[i]?).getD true)=bs.all id:=by rw[aV,<-hl];exact aDe bs
  rw[e]
  exact ⟨.bl (bs.all id),H,I.kept (t':=tk) fun b o g=>hk b o (fun z=>by
   have z:b=s.heap.objs.size:=by simpa using z
   exact absurd (aS g) (by rw[z];exact dU _)) (aD _ g),rfl,q⟩
theorem RepL.bls{K:aB}:∀ {bs:List Bool}{xs:List V},RepL K H (bs.map D.bl) xs->xs=bs.map V.bl
 |[],xs,r=>by simpa only[fD,RepL] using r
 |n::ns,xs,r=>by rw[aZ] at r;obtain⟨y,ys,rfl,a,rl⟩:=r.uncons;simp only[Rep] at a;rw[a,RepL.bls rl];rfl
theorem aLq{p:Pos}{bs:List Bool}(hg:Gl X "all")(hm:X.mg "all"=none)(ha:PEd X sd e (.bor<|bs.map D.bl))(hc:X.calm=true:=by rfl)(hst:AF [e] X.env=(false,eval e X.env)::AF [] X.env:=by rfl):PEd X sd (.Call (.Name "all" p) [e] [] pos) (.val (.bl<|bs.all id)):=
 mR (he:=hst) (aGb hc) hg hm boot_all (aC ha aO trivial hst) λσ F H vs Q S q k=>by
  cases q with
  |cons q1 q2=>cases q2;obtain⟨p,xs,rfl,hp,rl,_⟩:=q1;exact⟨p,bs,rfl,.of (by rw[<-rl.bls];exact hp),k _ F H S (Same.refl _)<|by simp only[ResOk,Rep]⟩
noncomputable abbrev Ch:=Nat×Nat×List Nat
noncomputable def wcQ(row:List Nat)(c:Ch):List Nat:=row.take c.1++c.2.2++row.drop (c.1+c.2.1)
noncomputable def aQr(L:List SK)(row:List Nat):Int:=aJw<|zL L row
noncomputable def aQn(p:Int×Int)(L:List SK)(row:List Nat)(o:Option (List Nat)):List (List Int):=(bT p).map λws=>match o with
 |none=>aOT p L row ws
 |some l=>l.map λj=>(aOT p L row ws).getD j 0
noncomputable def winB(row:List Nat)(c:Ch):Bool:=decide<|1<=c.2.1/\c.1+c.2.1<=row.length
noncomputable def hoQ(p:Int×Int)(L:List SK)(row:List Nat)(c:Ch)(o:Option (List Nat)):Bool:=winB row c&&(decide (aQr L c.2.2<aQr L ((row.drop c.1).take c.2.1))&&decide (aQn p L (wcQ row c) o=aQn p L row o))
def fX(L:List SK)(row:List Nat):Prop:=∀t∈row,t<L.length
structure Chn(p:Int×Int)(L:List SK)(o:Option (List Nat))(row:List Nat)(cs:List Ch)(rs:List (List Nat)):Prop where
 len:rs.length=cs.length+1
 hd:rs.getD 0 []=row
 st:∀i,i<cs.length->hoQ p L (rs.getD i []) (cs.getD i (0,0,[])) o=true/\rs.getD (i+1) []=wcQ (rs.getD i []) (cs.getD i (0,0,[]))
 ok:∀r∈rs,fX L r/\r.length<=8+9*cs.length
 pc:∀c∈cs,fX L c.2.2/\c.2.2.length<=9
theorem aJz{G K:Prop}(h:K->G)(k:K):G:=h k
section
variable {prog:AD}{w:AL}{κ:Type}[DecidableEq κ](knd:KeyKind prog w κ)
variable {knd}
variable {A:BK}{E:BH->BI->Prop}{s:BI}
end
structure HK(P:AD)(w:AL)(κ:Type)[DecidableEq κ] where
 kind:HeapKind P w κ
 rel:Hp->κ->BJ->Prop
 mono:∀ {F F':Hp}{k:κ}{a:BJ},Same F F'->rel F k a->rel F' k a
 ok:∀ {H:Hp}{h:BL}{k:κ}{a:BJ},HOk P w H h->rel H k a->kind.is h k a
 room:∀ {A:BK},A.units+2<AQ->kind.room A.in1
 dat:κ->D
 key:∀ {K:aB}{F:Hp}{k:κ}{v:V},Rep K F (dat k) v->∃a,v=.ref a/\rel F k a
 back:∀ {K:aB}{F:Hp}{k:κ}{a:BJ},rel F k a->Rep K F (dat k) (.ref a)
theorem xZ{K:aB}{F:Hp}:∀k:List Key,RepL K F (k.map kD) (k.map kV)
 |[]=>.nil
 |a::k=>by refine .cons ?_ (xZ k);cases a<;>simp only[kD,kV,Rep]
noncomputable def tD(k:List Key):D:=.tup<|k.map kD
noncomputable def hkT(P:AD)(w:AL):HK P w (List Key) where
 kind:=Aq<|fJ P w
 rel:=λF k a=>F a=some (.tup<|k.map kV)
 mono:=λs h=>s _ _ h
 ok:=λok h=>tW ok h
 room:=λhu=>BG<|by omega
 dat:=tD
 key:=λr=>by simp only[tD,Rep] at r;obtain⟨a,ys,rfl,ha,rl⟩:=r;rw[pS rl] at ha;exact⟨a,rfl,ha⟩
 back:=λ{K F k a} h=>by simp only[tD,Rep];exact⟨a,_,rfl,h,xZ k⟩
inductive R2k(F:Hp):List (List Key)->List V->Prop
 |nil:R2k F [] []
 |cons {k:List Key}{b:BJ}{ks:List (List Key)}{vs:List V}:F b=some (.tup<|k.map kV)->R2k F ks vs->R2k F (k::ks) (.ref b::vs)
section
variable {P:AD}{w:AL}{κ:Type}[DecidableEq κ](hk:HK P w κ)
abbrev KG(F:Hp):List (κ×V)->List (κ×BJ×BH)->Prop:=Paired λp q=>p.1=q.1/\hk.rel F p.1 q.2.1/\RelV p.2 q.2.2
def TG(K:aB)(F:Hp)(l:BJ)(o:BM)(ks:List κ)(ds:List D):Prop:=
 ks.length=ds.length/\ks.length<=AN/\(l==An)=false/\ks.Nodup/\∃ (vs:List V) (xs:List (κ×BJ×BH)) (es:Array DictEntry) (ep:Nat),RepL K F ds vs/\KG hk F (ks.zip vs) xs/\o.ExactDict/\o.data=.dict es ep/\es.toList=xs.map (entryOfKey hk.kind)/\(xs.map (·.1)).Nodup
variable {hk}{K:aB}{F F' H:Hp}{l:BJ}{o:BM}{ks:List κ}{ds:List D}
theorem KG.mono{kvs:List (κ×V)}{xs:List (κ×BJ×BH)}(s:Same F F')(r:KG hk F kvs xs):KG hk F' kvs xs:=Paired.mapP r λ_ _ z=>⟨z.1,hk.mono s z.2.1,z.2.2⟩
theorem TG.mono(s:Same F F')(t:TG hk K F l o ks ds):TG hk K F' l o ks ds:=by obtain⟨h1,h2,h3,h4,vs,xs,es,ep,r,g,q⟩:=t;exact⟨h1,h2,h3,h4,vs,xs,es,ep,r.mono s,g.mono s,q⟩
theorem KG.all{h:BL}(ok:HOk P w H h){l:List (κ×V)}{m:List (κ×BJ×BH)}(q:KG hk H l m):∀x∈m,hk.kind.is h x.1 x.2.1:=by
 induction q with
 |nil=>intro x hx;exact nomatch hx
 |@cons p q ps qs hq t ih=>
  intro x hx
  rcases aW.mp hx with e|hx
  ·subst e;exact hk.ok ok (by rw[<-hq.1];exact hq.2.1)
  ·exact ih x hx
theorem KG.val{kvs:List (κ×V)}{xs:List (κ×BJ×BH)}(r:KG hk F kvs xs)(k:κ):RelO (lQ kvs k) ((atKey xs k).map (·.2)):=by
 induction r with
 |nil=>exact True.intro
 |@cons p q ps qs h t ih=>
  obtain⟨h1,_,h2⟩:=h
  by_cases e:p.1=k
  ·have e':q.1=k:=h1.symm.trans e;have b:atKey (q::qs) k=some q.2:=by simp[atKey,kK,e']
   rw[oF e,b];exact h2
  ·have e':¬ q.1=k:=λz=>e (h1.trans z)
   have b:atKey (q::qs) k=atKey qs k:=by simp[atKey,kK,e']
   rw[lP e,b];exact ih
theorem KG.new{kvs:List (κ×V)}{xs:List (κ×BJ×BH)}(r:KG hk F kvs xs){k:κ}(hn:lQ kvs k=none){b:BJ}{y:V}{u:BH}(hb:hk.rel F k b)(ry:RelV y u):KG hk F (kvs++[(k,y)]) (storedH xs k b u):=by
 have e:atKey xs k=none:=by
  have:=r.val k;rw[hn] at this;cases h:atKey xs k with
  |none=>rfl
  |some z=>rw[h] at this;cases this
 rw[storedH_new e];exact Paired.snoc r ⟨rfl,hb,ry⟩
theorem tZ{k:κ}:∀ {ks:List κ}{xs:List V},k∉ks->lQ (ks.zip xs) k=none
 |[],_,_=>rfl
 |_::_,[],_=>rfl
 |j::js,x::xs,h=>by rw[eW,lP (p:=(j,x)) (k:=k) (λe=>h<|(show j=k from e)▸aH)];exact tZ λz=>h<|aI _ z
theorem aBc:∀ {ks:List κ}{xs:List V}{n:Nat}{k:κ}{x:V},ks.Nodup->ks[n]? =some k->xs[n]? =some x->lQ (ks.zip xs) k=some x
 |[],_,n,_,_,_,h,_=>by simp at h
 |_::_,[],n,_,_,_,_,h=>by simp at h
 |j::js,y::ys,0,k,x,nd,h1,h2=>by
  have e1:j=k:=by simpa using h1
  have e2:y=x:=by simpa using h2
  rw[eW,oF e1,e2]
 |j::js,y::ys,n+1,k,x,nd,h1,h2=>by
  obtain⟨nj,nd⟩:=cC.mp nd;have h1:js[n]? =some k:=by simpa using h1
  have h2:ys[n]? =some x:=by simpa using h2
  rw[eW,lP (p:=(j,y)) (k:=k) (λe=>nj<|(show j=k from e)▸bD h1)];exact aBc nd h1 h2
theorem aFw{k:κ}{ks:List κ}{xs:List V}(nd:ks.Nodup)(hl:ks.length=xs.length)(h:k∈ks):(lQ (ks.zip xs) k).isSome=true:=by obtain⟨n,hn,rfl⟩:=dE h;rw[aBc (n:=n) (x:=xs[n]'(by omega)) nd (by simp[hn])<|by simp[show n<xs.length by omega]];rfl
theorem TG.dict{h:BL}(ok:HOk P w H h)(s:Same F H)(hl:H l=some (exO l o))(t:TG hk K F l o ks ds):∃ (vs:List V) (xs:List (κ×BJ×BH)),RepL K F ds vs/\KG hk F (ks.zip vs) xs/\h.DictOfH hk.kind l xs/\xs.length<=AN/\(∀k,(atKey xs k).isSome=decide (k∈ks)):=by
 obtain⟨h1,h2,h3,h4,vs,xs,es,ep,r,g,q1,q2,q3,q4⟩:=t;have ho:h.get? l=some o:=(ok l _ hl).1;refine⟨vs,xs,r,g,⟨o,es,ep,ho,q1,q2,q3,KG.all ok<|g.mono s,q4⟩, ?_,λk=> ?_⟩
 ·rw[<-Paired.length g,kM,r.len,<-h1,qA];exact h2
 ·have:=(g.val k).isSome_eq;rw[aGx] at this;rw[<-this]
  by_cases e:k∈ks
  ·rw[decide_eq_true e];exact aFw h4 (by rw[r.len,h1]) e
  ·rw[decide_eq_false e,tZ e];rfl
end
section
variable {P:AD}{w:AL}{κ:Type}[DecidableEq κ]
def GG(hk:HK P w κ)(K:aB)(l:BJ)(ks:List κ)(ds:List D):V->Hp->Hp->Prop:=λv F H=>v=.ref l/\∃o,H l=some (exO l o)/\TG hk K F l o ks ds
noncomputable def oG(hk:HK P w κ)(K:aB)(l:BJ)(ks:List κ)(ds:List D):Slot:=.ox [l]<|GG hk K l ks ds
noncomputable def gD(hk:HK P w κ)(K:aB)(ks:List κ)(ds:List D):D:=.any λv F=>∃l o,v=.ref l/\F l=some (exO l o)/\TG hk K F l o ks ds
variable {hk:HK P w κ}{K:aB}{H₀ F H:Hp}{σ:St}{sd:List Slot}{i:Nat}{l:BJ}{ks:List κ}{ds:List D}{o:BM}
theorem TG.cell(t:TG hk K F l o ks ds):∀v,o.data≠ .cell v:=λv z=>by obtain⟨_,_,_,_,_,_,_,_,_,_,_,q,_⟩:=t;rw[q] at z;cases z
theorem wK(S:StF K H₀ F H σ sd)(hs:sd[i]? =some (oG hk K l ks ds)):σ[i]? =some (some<|.ref l)/\F l=none/\∃o,H l=some (exO l o)/\TG hk K F l o ks ds:=by
 obtain⟨o,h1,v,h2,h3,h4⟩:=S.slots.get hs;obtain⟨e,ob,a,b⟩:=h4 F H (Same.refl _) λ_ _ _ q=>q
 subst e h2;exact⟨h1,(h3 l<|cR l).1,ob,a,b⟩
theorem aMw(hF:F l=none)(h1:H l=some (exO l o))(t:TG hk K F l o ks ds):jB K F H (oG hk K l ks ds) (some<|.ref l):=
 ⟨.ref l,rfl,fun a ha=>by
  rw[aN.mp ha]
  exact⟨hF,_,h1,o,rfl,t.cell⟩,λF' H' s k=>⟨rfl,o,k l (cR l) _ h1,t.mono s⟩⟩
theorem gD_rep{v:V}:Rep K F (gD hk K ks ds) v↔∃l o,v=.ref l/\F l=some (exO l o)/\TG hk K F l o ks ds:=by
 simp only[gD,Rep]
 constructor
 ·exact λh=>h.2 F<|Same.refl _
 ·rintro⟨l,o,rfl,e,t⟩;exact⟨⟨l,rfl⟩,λF' s=>⟨l,o,rfl,s _ _ e,t.mono s⟩⟩
end
section
variable {X:Cx}{sd:List Slot}{e a b c tg iter:Expr}{es:List Expr}{pos:Pos}{d:D}{ds:List D}{κ:Type}[DecidableEq κ]{hk:HK X.prog X.w κ}{ks:List κ}{k:κ}{E:kE}{l:BJ}
theorem wN(hk:HK X.prog X.w κ)(i:Nat){x:Str}{p p2:Pos}(hN:X.N.Nodup)(hi:X.N[i]? =some x)(hx:Loc X.env.scope x)(hE:∀l,E.nx (sd.set i<|oG hk X.K l [] []))(hs:Ag (.Dict [] [] p2) (some<|.Name x p) pos.line X.env=pure false:=by rfl)
  (hf:X.fn x=true\/X.env.scope.names.lookup x=some .local:=by first|exact .inl rfl|exact .inr rfl|assumption):PSd1 X sd (.Assign [.Name x p] (.Dict [] [] p2) pos) E:=.mk λσ F H S=>
 (uI hN hi hx aBN hs hf).to λq hq hm=>by
  have fp:F q=none:=S.sub.free hq
  have no:q∉cQ sd:=λhl=>by obtain⟨_,ob,h,_⟩:=S.slots.owns hl;rw[hq] at h;cases h
  have S1:StF X.K X.B₀ F (upd H q<|exO q aGI) σ sd:=by
   refine⟨S.base,λb u e=> ?_,oH S.smp q,S.slots.mono (Same.refl _) λl hl=> ?_,S.nd⟩
   ·rw[bV<|cS e fp];exact S.sub _ _ e
   ·obtain⟨n,ys,y,_⟩:=S.slots.owns hl;have hne:l≠q:=cS y hq;exact⟨n,λys e=>by rw[bV hne];exact e⟩
  refine⟨_,F,S1.setT i (aMw (hk:=hk) (K:=X.K) (ks:=[]) (ds:=[]) fp cG ⟨rfl,bW _,hm,eV,[],[], #[],0,.nil,.nil,⟨rfl,rfl,rfl⟩,rfl,rfl,eV⟩) (by simp) λa ha=> ?_,Same.refl _,hE q⟩;rw[aN.mp ha];exact no
theorem vV(i:Nat){x:Str}{p p2:Pos}(hu:X.A.units+2<AQ)(hs:sd[i]? =some (oG hk X.K l ks ds))(hx:PE X (.Name x p) (mW i))(h:PEd X sd e (.val d))(hb:PEd X sd b (.val<|hk.dat k))(hnk:k∉ks)(hl:ds.length<=1000)(hE:E.nx (sd.set i (oG hk X.K l (ks++[k])<|ds++[d])))
  (hsw:Ag e (some<|.Subscript (.Name x p) b p2) pos.line X.env=pure false:=by rfl):PSd1 X sd (.Assign [.Subscript (.Name x p) b p2] e pos) E:=.mk λσ F H S pins s I=>by
 refine wpAny_Assign_Subscript (thn (h σ F H S pins s I) λr s1 ⟨v,H1,I1,rv,F1,S1,sF1,q1⟩=> ?_) hsw;obtain⟨h1,_⟩:=wK S1 hs;refine thn (hx pins s1 σ H1 (λv H2=>v=.ref l/\H2=H1) I1 ⟨.ref l,h1,rfl,rfl⟩) λu s2 ⟨y,H2,I2,ry,e1,e2⟩=> ?_
 subst e1 e2;obtain rfl:u=Value.ref l:=ry;refine thn (hb σ F1 H2 S1 pins s2 I2) λiv s3 ⟨y,H3,I3,ry,F3,S3,sF3,q3⟩=> ?_
 obtain⟨g1,g2,o,g3,t⟩:=wK S3 hs;obtain⟨ad,rfl,ha⟩:=hk.key q3;obtain rfl:iv=Value.ref ad:=ry;obtain⟨vs,xs,r1,kg,dd,hz,hin⟩:=t.dict I3.hok S3.sub g3;obtain⟨t1,t2,t3,t4,_⟩:=t;refine wpAny_setItem_heap (hsz:=hz) (hk.room hu) (hk.ok I3.hok<|hk.mono S3.sub ha) dd λh' dd' hsm=> ?_
 obtain⟨q,es',ep',hq,u2,u3,u4,_,u5⟩:=dd';have I4:=vR (t':=s3.toks+hk.kind.draws k) I3 (ob:=exO l q) (by rw[g3];exact True.intro) hsm ⟨q,hq⟩<|xP hq;have lz:ks.length=vs.length:=by rw[t1,r1.len]
 have kg':=kg.new (tZ hnk) ha rv;rw[<-tS lz] at kg'
 have t':TG hk X.K F3 l q (ks++[k]) (ds++[d]):=⟨by rw [aQ,aQ,t1]; rfl,by
  rw[aQ,t1];have:=gQ hl;show ds.length+1<=AN
  omega,t3,bK.mpr ⟨t4,by simp,λa ha b hb e=>hnk (by rw[<-aN.mp hb,<-e];exact ha)⟩,vs++[v],_,es',ep',r1.app (.one (Rep.mono sF3 q1)),kg',u2,u3,u4,u5⟩
 refine⟨σ,_,I4,_,F3,S3.reT (z':=oG hk X.K l (ks++[k])<|ds++[d]) hs g1 (λb ob hb q=> ?_) (oH S3.smp l) (aMw g2 cG t') (show[l].Nodup by simp) λa ha=>.inl ha,sF1.trans sF3,hE⟩;rw[bV (show b≠l from λz=>hb<|z▸cR l)];exact q
theorem aBW(i:Nat){sts:List BN}(hs:sd[i]? =some (oG hk X.K l ks ds))(h:PSd X (sd.set i (.val<|gD hk X.K ks ds)) sts E):PSd X sd sts E:=.mk λσ F H S=>by
 obtain⟨h1,h2,o,h3,t⟩:=wK S hs;have S0:=S.le<|iO sd i;have no:l∉cQ (sd.set i .un):=λhb=>jJ S.nd hs (show l∈[l] from cR l) hb
 obtain⟨S1,s1⟩:=S0.inN (l:=l) (ls:=[]) (λa ha=>by rw[aN.mp ha];exact h2) λa ha=>by rw[aN.mp ha];exact no
 have f1:(inF F H [l]) l=some (exO l o):=by rw[aIQ aH];exact h3
 have S2:=S1.set (d:=gD hk X.K ks ds) (v:=.ref l) i<|gD_rep.mpr ⟨l,o,rfl,f1,t.mono s1⟩;rw[kS,mM h1] at S2;exact aIo s1<|h σ _ H S2
structure PDc(X:Cx)(sd:List Slot)(e:Expr){κ:Type}[DecidableEq κ](hk:HK X.prog X.w κ)(ks:List κ)(ds:List D):Prop where
 get:∀ (σ:St) (F H:Hp),StF X.K X.B₀ F H σ sd->wE X e σ H λv H1=>∃F1 l,StF X.K X.B₀ F1 H1 σ sd/\Same F F1/\v=.ref l/\∀F2 H2,StF X.K X.B₀ F2 H2 σ sd->Same F1 F2->∃o,H2 l=some (exO l o)/\TG hk X.K F2 l o ks ds
theorem aEd(i:Nat){x:Str}{p:Pos}(hs:sd[i]? =some (oG hk X.K l ks ds))(hx:PE X (.Name x p) (mW i)):PDc X sd (.Name x p) hk ks ds:=⟨fun σ F H S=>hx.to (by
 obtain⟨h1,_⟩:=wK S hs
 exact⟨.ref l,h1,F,l,S,Same.refl _,rfl,λF2 H2 S2 _=>(wK S2 hs).2.2⟩)⟩
theorem rZ(h:PEd X sd e (.val (gD hk X.K ks ds))):PDc X sd e hk ks ds:=⟨fun σ F H S=>(h σ F H S).imp fun v H1 ⟨F1,S1,s1,q1⟩=>by
 obtain⟨l,o,rfl,e,t⟩:=gD_rep.mp q1
 exact⟨F1,l,S1,s1,rfl,λF2 H2 S2 s2=>⟨o,S2.sub _ _ (s2 _ _ e),t.mono s2⟩⟩⟩
noncomputable def rIn(hk:HK X.prog X.w κ)(f:Bool->Bool):R2:=λx y H Q=>∃ (F:Hp) (ad l:BJ) (o:BM) (k:κ) (ks:List κ) (ds:List D),x=.ref ad/\y=.ref l/\Same F H/\hk.rel F k ad/\H l=some (exO l o)/\TG hk X.K F l o ks ds/\X.A.units+2<AQ/\Q (.bl<|f (decide<|k∈ks)) H
theorem aIn:OpR X (AS .In) (rIn hk id):=by intro pins s σ H x y v u Q I rx ry h;obtain⟨F,ad,l,o,k,ks,ds,rfl,rfl,sF,ha,hl,t,hu,q⟩:=h;obtain rfl:v=Value.ref ad:=rx;obtain rfl:u=Value.ref l:=ry;obtain⟨vs,xs,_,_,dd,_,hin⟩:=t.dict I.hok sF hl;refine wpAny_in_heap (hk.room hu) (hk.ok I.hok<|hk.mono sF ha) t.2.2.1 dd ⟨.bl (decide<|k∈ks),H,I.tok _, ?_,q⟩;show Value.bool _=Value.bool _;rw[hin]
theorem aLd:OpR X (AS .NotIn) (rIn hk (!·)):=by intro pins s σ H x y v u Q I rx ry h;obtain⟨F,ad,l,o,k,ks,ds,rfl,rfl,sF,ha,hl,t,hu,q⟩:=h;obtain rfl:v=Value.ref ad:=rx;obtain rfl:u=Value.ref l:=ry;obtain⟨vs,xs,_,_,dd,_,hin⟩:=t.dict I.hok sF hl;refine wpAny_notIn_heap (hk.room hu) (hk.ok I.hok<|hk.mono sF ha) t.2.2.1 dd ⟨.bl<|!decide (k∈ks),H,I.tok _, ?_,q⟩;show Value.bool _=Value.bool _;rw[hin]
theorem aKw(hu:X.A.units+2<AQ)(ha:PEd X sd a (.val<|hk.dat k))(hb:PDc X sd b hk ks ds)(hm:AT .In b=false:=by with_unfolding_all rfl):PTd X sd (.Compare a [.In] [b] pos) (decide<|k∈ks):=.mk λσ F H S=>
 (vD (aIn (hk:=hk)) gP gP hm).to ((ha σ F H S).imp fun v H1 ⟨F1,S1,s1,q1⟩=>(hb.get σ F1 H1 S1).imp fun u H2 ⟨F2,l,S2,s2,eu,g⟩=>by
  obtain⟨ad,rfl,hr⟩:=hk.key q1;obtain⟨o,g1,g2⟩:=g F2 H2 S2<|Same.refl _
  exact⟨F2,ad,l,o,k,ks,ds,rfl,eu,S2.sub,hk.mono s2 hr,g1,g2,hu,_,rfl,rfl,F2,S2,s1.trans s2⟩)
theorem aHz(hu:X.A.units+2<AQ)(ha:PEd X sd a (.val<|hk.dat k))(hb:PDc X sd b hk ks ds)(hm:AT .NotIn b=false:=by with_unfolding_all rfl):PTd X sd (.Compare a [.NotIn] [b] pos) (!decide (k∈ks)):=.mk λσ F H S=>
 (vD (aLd (hk:=hk)) gP gP hm).to ((ha σ F H S).imp fun v H1 ⟨F1,S1,s1,q1⟩=>(hb.get σ F1 H1 S1).imp fun u H2 ⟨F2,l,S2,s2,eu,g⟩=>by
  obtain⟨ad,rfl,hr⟩:=hk.key q1;obtain⟨o,g1,g2⟩:=g F2 H2 S2<|Same.refl _
  exact⟨F2,ad,l,o,k,ks,ds,rfl,eu,S2.sub,hk.mono s2 hr,g1,g2,hu,_,rfl,rfl,F2,S2,s1.trans s2⟩)
theorem aAX{n:Nat}(hu:X.A.units+2<AQ)(ha:PDc X sd a hk ks ds)(hb:PEd X sd b (.val<|hk.dat k))(hkn:ks[n]? =some k)(hd:ds[n]? =some d)(hsl:aQB b):PEd X sd (.Subscript a b pos) (.val d):=.mk λσ F H S pins s I=>by
 refine aKm PySem.F.slot_dict_getitem.lookup hsl<|thn (ha.get σ F H S pins s I) λu s1 ⟨y,H1,I1,ry,F1,l,S1,s1',ey,g⟩=> ?_;subst ey;obtain rfl:u=Value.ref l:=ry;refine thn (hb σ F1 H1 S1 pins s1 I1) λiv s2 ⟨y,H2,I2,ry,F2,S2,sF,q2⟩=> ?_
 obtain⟨o,g1,t⟩:=g F2 H2 S2 sF;obtain⟨ad,rfl,hr⟩:=hk.key q2;obtain rfl:iv=Value.ref ad:=ry;obtain⟨vs,xs,rl,kg,dd,_,_⟩:=t.dict I2.hok S2.sub g1;obtain⟨v,hv,rv⟩:=rl.get hd;obtain⟨w',hw,rw'⟩:=RelO.some_of (v:=v) (o:=(atKey xs k).map (·.2)) (by rw[<-aBc t.2.2.2.1 hkn hv];exact kg.val k);obtain⟨pr,hp,hp2⟩:=iV.mp hw;refine⟨dd.typeIs,wpAny_getItem_heap (hk.room hu) (hk.ok I2.hok<|hk.mono S2.sub hr) dd hp ?_⟩;rw[hp2];exact⟨v,H2,I2.tok _,rw',F2,S2,s1'.trans sF,rv⟩
end
variable {prog:AD}{w:AL}{E:BH->BI->Prop}{d it:BJ}{od:BM}{es:Array DictEntry}{ep i:Nat}
theorem tI(g:s.heap.get? d=some od)(c:od.ExactDict):s.TypeIs (.ref d) "dict":=⟨od,g,c.1⟩
theorem aBZ{Q:BH->BI->Prop}(sm:(d==An)=false)(g:s.heap.get? d=some od)(c:od.ExactDict)(e:od.data=.dict es ep)
  (q:Q (.ref s.heap.objs.size) {s with heap:=s.heap.push {cls:=.type "dict_keyiterator",data:=.fields #[.ref d,.int 0 0,.int es.size 0,.int ep 0]}}):AI (AG prog w) A (pyIter<|.ref d) Q E s:=by
 have ty:=tI g c;refine wpAny_pyIter_slot ty F.slot_dict_iter (Ae F.slot_dict_iter ty F.entry_dict_iter (AA ?_)<|F.args_dict_iter_1 _);unfold Builtin.Dict.dictSlotNone;refine AA<|BA ty (AB (a:=Value.ref d)<|AA (m:=Builtin.Dict.showsAll d) ?_);unfold Builtin.Dict.showsAll;rw[sm,if_neg bY];exact AB<|AA (Am g e<|AA (wpAny_dictEpoch g e<|AA (AR<|AB ⟨_,rfl,"dict_keyiterator",_,⟨_,bG _ rfl,rfl⟩,F.slot_dict_keyiterator_next.lookup,q⟩)))
theorem zQ{Q:Option BH->BI->Prop}(ki:s.heap.IsKeyIter it d i es.size ep)(g:s.heap.get? d=some od)(e:od.data=.dict es ep)(hi:i<es.size)
  (q:∀h',h'.IsKeyIter it d (i+1) es.size ep->Heap.SameBut it s.heap h'->Q (some es[i].key) {s with heap:=h'}):AI (AG prog w) A (pyNext<|.ref it) Q E s:=by
 have ty:=ki.typeIs;obtain⟨o,g1,c1,f1⟩:=ki;unfold pyNext;refine AA (wpAny_attempt<|Al (name:=Str.ofString "__next__") ty F.slot_dict_keyiterator_next (Ae F.slot_dict_keyiterator_next ty F.entry_dict_keyiterator_next (AA<|AB (AA<|AA ?_))<|F.args_dict_keyiterator_next_1 _));refine AA (Ak ty<|AB (AA<|wpAny_fieldsOf g1 f1 ?_));rw[if_neg<|by decide];show AI _ _ (ite ((Value.ref d==Value.none)=true) _ _) _ _ _;rw[if_neg (c:=(Value.ref d==Value.none)=true) λz=>by cases z];refine AA<|AB (AA<|Am g e ?_);rw[if_neg<|by simp];refine AA<|AB (AA<|wpAny_dictEpoch g e ?_);rw[if_neg<|by simp];refine AB ?_;have ix:(if(i:Int)<0 then none else es[(i:Int).toNat]?)=some es[i]:=by rw[if_neg<|by omega,dO,aAB hi]
 simp only[ix]
 have up:(s.heap.update it (Obj.mapFields (·.setIfInBounds 1 (rawInt<|(i:Int)+1)))).IsKeyIter it d (i+1) es.size ep:=
  ⟨_,fV _ g1 (Obj.isFreed_of_fields<|Obj.data_mapFields f1 _),(Obj.cls_mapFields ..).trans c1,by rw[Obj.data_mapFields f1];simp[rawInt]⟩
 refine AA<|AA (Ak ty<|AB (AA<|wpAny_isOneOf_keyiter ty (AA<|wpAny_setField g1 f1 (show(0:Nat)+1<4 by decide) (AA<|AV ?_))));refine AA<|wpAny_isOneOf_keyiter up.typeIs ?_;exact AB<|AB ⟨_,rfl,AB (q _ up<|Heap.SameBut.update ..)⟩
theorem aHV{Q:Option BH->BI->Prop}{hp:BL}(hh:A.handled=none)(sb:Heap.ExtBut it s.heap hp)(q:∀h',Heap.ExtBut it s.heap h'->Q none {s with heap:=h'}):
  AI (AG prog w) A.in1 (newExc (.type "StopIteration") []>>=fun x=>(raiseNew x:Sem Fin)) (fun fin s'=>∃v,fin=Fin.done (Flow.ret v)∧AI (AG prog w) A (pure (some v)) Q E s') (fun e s'=>AI (AG prog w) A (do
   let b <-isInstance e (Value.type "StopIteration")
   if b=true then pure none else throw e) Q E s') {s with heap:=hp}:=by
 refine AA ?_;simp only[newExc,newTuple];refine AA (AR (AA (m:=firstArgMember _ _)<|wpAny_of_eq (a:=Value.none) (by first|rfl|(simp only[firstArgMember];rfl)) (AR ?_<|by size_fits))<|by size_fits);simp only[raiseNew];refine AA<|wpAny_handled ?_;rw[show A.in1.handled=none from hh];refine AA (AB<|wpAny_throw ?_);refine AA<|wpAny_isInstance (T:="StopIteration") (b:=true) ⟨_,bG _ rfl,rfl⟩ isSubtype_stop ?_;exact AB (q _<|(sb.push _).push _)
theorem aCw{Q:Option BH->BI->Prop}(hh:A.handled=none)(ki:s.heap.IsKeyIter it d i es.size ep)(g:s.heap.get? d=some od)(e:od.data=.dict es ep)(hi:es.size<=i)
  (q:∀h',Heap.ExtBut it s.heap h'->Q none {s with heap:=h'}):AI (AG prog w) A (pyNext<|.ref it) Q E s:=by
 have ty:=ki.typeIs;obtain⟨o,g1,c1,f1⟩:=ki;unfold pyNext;refine AA (wpAny_attempt<|Al (name:=Str.ofString "__next__") ty F.slot_dict_keyiterator_next (Ae F.slot_dict_keyiterator_next ty F.entry_dict_keyiterator_next (AA<|AB (AA<|AA ?_))<|F.args_dict_keyiterator_next_1 _));refine AA (Ak ty<|AB (AA<|wpAny_fieldsOf g1 f1 ?_));rw[if_neg<|by decide];show AI _ _ (ite ((Value.ref d==Value.none)=true) _ _) _ _ _;rw[if_neg (c:=(Value.ref d==Value.none)=true) λz=>by cases z];refine AA<|AB (AA<|Am g e ?_);rw[if_neg<|by simp];refine AA<|AB (AA<|wpAny_dictEpoch g e ?_);rw[if_neg<|by simp];refine AB ?_;have ix:(if(i:Int)<0 then none else es[(i:Int).toNat]?)=none:=by rw[if_neg<|by omega,dO,pN hi]
 simp only[ix];refine AA<|AA (Ak ty<|AB (AA<|wpAny_setField g1 f1 (show(0:Nat)<4 by decide) ?_));exact aHV hh (Heap.SameBut.update ..).extBut q
section
variable {P:AD}{w:AL}{κ:Type}[DecidableEq κ]{hk:HK P w κ}{K:aB}{F:Hp}{l:BJ}{o:BM}{ks:List κ}{ds:List D}
theorem Paired.at{α β:Type}{R:α->β->Prop}{as:List α}{bs:List β}(p:Paired R as bs):∀ {n:Nat}{a:α},as[n]? =some a->∃b,bs[n]? =some b/\R a b:=by
 induction p with
 |nil=>intro n a h;simp at h
 |@cons x y xs ys r t ih=>
  intro n a h;cases n with
  |zero=>
   have:x=a:=by simpa using h
   subst this;exact⟨y,rfl,r⟩
  |succ n=>obtain⟨b,h1,h2⟩:=ih (by simpa using h);exact⟨b,by simpa using h1,h2⟩
theorem TG.ents(t:TG hk K F l o ks ds):∃ (es:Array DictEntry) (ep:Nat) (vs:List V),o.ExactDict/\o.data=.dict es ep/\es.size=ks.length/\RepL K F ds vs/\∀ (n:Nat) (k:κ),ks[n]? =some k->∃b v u,vs[n]? =some v/\es[n]? =some u/\u.key=.ref b/\RelV v u.val/\hk.rel F k b:=by
 obtain⟨h1,h2,h3,h4,vs,xs,es,ep,r,g,q1,q2,q3,q4⟩:=t;have zl:(ks.zip vs).length=ks.length:=by rw[kM,r.len,<-h1,qA]
 refine⟨es,ep,vs,q1,q2, ?_,r,λn k hn=> ?_⟩
 ·have:=congrArg oM q3;rw[cM,aA,<-Paired.length g,zl] at this;exact this
 ·have nl:n<ks.length:=(aK.mp hn).1;have nv:n<vs.length:=by rw[r.len,<-h1];exact nl
  have hz:(ks.zip vs)[n]? =some (k,vs[n]):=nM.mpr ⟨hn,by simp[nv]⟩;obtain⟨b,hb,e1,e2,e3⟩:=Paired.at g hz;refine⟨b.2.1,vs[n],entryOfKey hk.kind b,by simp[nv], ?_,rfl,e3,e2⟩;rw[<-cX,q3,bA,hb];rfl
end
noncomputable def ItG(a:BJ)(o:BM)(es:Array DictEntry):It where
 go:=λi H=>H a=some (exO a o)/\i<es.size
 yld:=λi H x H'=>H'=H/\∃u b,es[i]? =some u/\u.key=.ref b/\x=.ref b
 stop:=λi H=>H a=some (exO a o)/\es.size<=i
theorem aCO{P:AD}{K:aB}{a:BJ}{o:BM}(hd:o.data=.dict es ep)(hr:∀ (i:Nat) (h:i<es.size),∃b,es[i].key=.ref b)(it:BJ):aIi P w K tg (ItG a o es) [it] it (λi h=>h.IsKeyIter it a i es.size ep) where
 mem:=by simp
 obj:=λi h st b hb=>by
  have e:b=it:=by simpa using hb
  subst e;obtain⟨o,e,c,d⟩:=st;exact⟨o,e,λv z=>by rw[d] at z;cases z⟩
 keep:=λi h h' st k=>by obtain⟨o,e,c,d⟩:=st;exact⟨o,k it (by simp) o e,c,d⟩
 item:=by
  intro X hP hw hK hc i pins s σ H E I hf st hg;subst hP hw hK;obtain⟨hq,hx⟩:=hg;obtain⟨b,hb⟩:=hr i hx;have g:s.heap.get? a=some o:=(I.hok a _ hq).1;obtain⟨f0,f1,f2,f3,f4,f5⟩:=hf it (by simp);refine zQ st g hd hx λh' st' sb=> ?_
  have I1:Inv X pins σ H {s with heap:=h'}:=I.turned (t':=s.toks) (λb o hb e=>(sb.2 b hb).trans e) f0 f1 f3 f4 f5;obtain⟨o',e,c,d⟩:=id st';exact⟨_,rfl,aGR (s:={s with heap:=h'}) e c d (by decide) ⟨.ref b,H,I1,hb,⟨rfl,es[i],b,by simp[hx],hb,rfl⟩,st',λb hb=>(hf b hb).1⟩⟩
 done:=by intro X hP hw hK hc i pins s σ H E I hf st hg;subst hP hw hK;obtain⟨hq,hx⟩:=hg;have g:s.heap.get? a=some o:=(I.hok a _ hq).1;obtain⟨f0,f1,f2,f3,f4,f5⟩:=hf it (by simp);exact aCw (I.ok.hd hc) st g hd hx λh' eb=>⟨rfl,I.turned (t':=s.toks) (λb o hb e=>eb b o hb e) f0 f1 f3 f4 f5⟩
 self:=λ_ _ _ _ _ st h=>wpAny_pyIter_keyiter st h
section
variable {X:Cx}{sd:List Slot}{e tg iter:Expr}{pos:Pos}{d:D}{ds:List D}{κ:Type}[DecidableEq κ]{hk:HK X.prog X.w κ}{ks:List κ}
theorem aFH(h:PEd X sd iter (.val<|gD hk X.K ks ds)):PId X sd PT0 tg iter (ks.map hk.dat):=.mk λσ F H S pins s I=>by
 refine thn (h σ F H S pins s I) λv s1 ⟨x,H1,I1,r1,F1,S1,s1',q1⟩=> ?_
 obtain⟨a,o,rfl,ha,t⟩:=gD_rep.mp q1;cases r1;obtain⟨es,ep,vs,c,e,ez,r,hn⟩:=t.ents;have g:s1.heap.get? a=some o:=(I1.hok a _<|S1.sub _ _ ha).1
 have hr:∀ (i:Nat) (h:i<es.size),∃b,es[i].key=.ref b:=λi hi=>by
  have il:i<ks.length:=by rw[<-ez];exact hi
  obtain⟨b,v,u,_,e2,e3,_⟩:=hn i ks[i] (by simp[il]);rw[aAB hi] at e2;cases e2;exact⟨b,e3⟩
 refine aBZ t.2.2.1 g c e ?_;refine⟨s1.heap.objs.size,[s1.heap.objs.size],_,ItG a o es,H1,rfl,I1.kept (t':=s1.toks) λb o e=>aD _ e,aCO e hr _,⟨_,bG _ rfl,rfl,rfl⟩,λb hb=> ?_,F1,S1,s1',λF' H' sF sH sm _ i=> ?_⟩
 ·have e:b=s1.heap.objs.size:=by simpa using hb
  subst e;exact I1.fpOk (aP _) (I1.hok.fresh<|aP _)
 ·have ha':=sH _ _<|sF _ _ ha;refine⟨λhi=>⟨ha',by rw[ez];rw[aA] at hi;exact hi⟩,λhi=>⟨ha',by rw[ez];rw[aA] at hi;exact hi⟩,λx H2 dd hdd y=> ?_⟩;obtain⟨rfl,u,b,e1,e2,rfl⟩:=y;rw[bA] at hdd;obtain⟨k,hk1,rfl⟩:=iV.mp hdd;obtain⟨b',v,u',_,e4,e5,_,rl⟩:=hn i k hk1;rw[e1] at e4;cases e4;rw[e2] at e5;cases e5;exact⟨F',Same.refl _,hk.back<|hk.mono sF rl,λ_ _ _ S=>S⟩
end
theorem aDc(sm:(d==An)=false):MeetsIn prog w (Builtin.«dict.__len__» ⟨[.ref d],[]⟩) (λ_ R s=>∃ (od:BM) (es:Array DictEntry) (ep:Nat),s.heap.get? d=some od/\od.ExactDict/\od.data=.dict es ep/\R (.ok (.ret<|.int es.size s.toks)) {s with toks:=s.toks+1}):=
 .of_wp λA R s ⟨od,es,ep,g,c,e,q⟩=>by refine AA (m:=Builtin.Dict.dictSlotNone "__len__" ⟨[.ref d],[]⟩) ?_;unfold Builtin.Dict.dictSlotNone;refine AA<|BA (tI g c) (AB (a:=Value.ref d)<|AA (AB<|AA (m:=dictSize d) ?_));unfold dictSize;exact AA (Am g e<|AB (AA<|wpAny_pendingCount_other sm (wpAny_ret_mkInt<|by rw[show((es.size:Nat):Int)+((0:Nat):Int)=(es.size:Int) from Int.add_zero _];exact q)))
theorem aGe{Q:BH->BI->Prop}(sm:(d==An)=false)(g:s.heap.get? d=some od)(c:od.ExactDict)(e:od.data=.dict es ep)(fit:es.size<=AN)(q:∀t t2,Q (.int es.size t) {s with toks:=t2}):AI (AG prog w) A (call (.builtin "len") [.ref d]) Q E s:=by
 have lim:AN=16777216:=Ah;have ty:=tI g c;refine Calls.call_function_entry kind_len plain_len entry_len (args_len1 _) ?_;refine AA (m:=oneArg "len" _) (AB<|AA (m:=callSpecial? (.ref d)<|Str.ofString "__len__") (Al (name:=Str.ofString "__len__") ty F.slot_dict_len<|call_meetsIn F.slot_dict_len ty F.entry_dict_len (F.args_dict_len_1 _) (aDc sm) ⟨od,es,ep,g,c,e, ?_⟩));refine AA (AV<|AB (AA<|wpAny_letGo ?_));refine wpAny_ite_split (λz=>by omega) λ_=>wpAny_ite_split (λz=>by omega) λ_=> ?_
 exact AA (wpAny_mkInt<|AB ⟨_,rfl,q _ _⟩)
section
variable {X:Cx}{sd:List Slot}{e:Expr}{pos:Pos}{d:D}{ds:List D}{κ:Type}[DecidableEq κ]{hk:HK X.prog X.w κ}{ks:List κ}
theorem aFQ:lY X (.builtin "len") (λxs H Q=>∃ (l:BJ) (o:BM) (es:Array DictEntry) (ep:Nat),xs=[.ref l]/\H l=some (exO l o)/\o.ExactDict/\o.data=.dict es ep/\(l==An)=false/\es.size<=AN/\Q (.int es.size) H):=by intro pins s σ H xs us Q I r h;obtain⟨l,o,es,ep,rfl,hl,c,e,sm,fit,q⟩:=h;obtain⟨u,rfl,rx⟩:=nN r;cases(show u=Value.ref l from rx);exact aGe sm (I.hok l _ hl).1 c e fit λt t2=>⟨.int es.size,H,I.tok _,⟨_,rfl⟩,q⟩
end
structure LyOk(K:aB)(F H:Hp)(p:Int)(L:Int->List D)(kvs:List (Key×V))(ls:List BJ):Prop where
 live:∃ (lk:List Int) (dss:List (List D)),lk.Nodup/\lk.length=ls.length/\InD K F H ls dss/\(∀k,p<k->lQ kvs (.inl k)=lQ (lk.zip<|ls.map V.ref) k)/\(∀ (n:Nat) (k:Int),lk[n]? =some k->p<k/\dss[n]? =some (L k))/\∀k,p<k->k∉lk->L k=[]
 cur:(lQ kvs (.inl p)=none/\L p=[])\/∃v,lQ kvs (.inl p)=some v/\Rep K F (.lst<|L p) v
variable {K:aB}{H₀ F' H':Hp}{l:BJ}{p:Int}{L:Int->List D}{ls:List BJ}{kvs:List (Key×V)}
theorem InD.erase:∀ {as:List BJ}{dss:List (List D)} (n:Nat),InD K F H as dss->InD K F H (as.eraseIdx n) (dss.eraseIdx n)
 |[],[],n,h=>by simp;exact h
 |[],_::_,_,h=>h.elim
 |_::_,[],_,h=>h.elim
 |a::as,ds::dss,0,h=>h.2
 |a::as,ds::dss,n+1,h=>⟨h.1,InD.erase n h.2⟩
theorem aAq{α β:Type}(f:α->β):∀ (l:List α) (n:Nat),(l.map f).eraseIdx n=(l.eraseIdx n).map f
 |[],_=>by simp
 |_::_,0=>rfl
 |a::l,n+1=>by show f a::(l.map f).eraseIdx n=f a::(l.eraseIdx n).map f;rw[aAq f l n]
namespace S45
variable {T:Type}[DecidableEq T](n:Nat)(pr:Nat->Int)(beh:Nat->T->T)(t0:T)
noncomputable abbrev Ent(T:Type):=Int×List Nat×T
noncomputable abbrev Lay(T:Type):=Int->List (List Nat×T)
noncomputable def tabQ(row:List Nat):T:=row.foldl (λt k=>beh k t) t0
noncomputable def prQ(row:List Nat):Int:=(row.map pr).sum
theorem tab_snoc(row:List Nat)(k:Nat):tabQ beh t0 (row++[k])=beh k (tabQ beh t0 row):=by unfold tabQ;rw[oN];rfl
theorem pr_snoc(row:List Nat)(k:Nat):prQ pr (row++[k])=prQ pr row+pr k:=by unfold prQ;rw[aJ,mJ];simp
noncomputable def put(t:Int)(row:List Nat)(tab:T):Nat->Lay T->Lay T
 |0,ly=>ly
 |k+1,ly=>λj=>if j=t+pr k then put t row tab k ly j++[(row++[k],beh k tab)] else put t row tab k ly j
noncomputable def one(t:Int)(s:List (Ent T)×Lay T)(e:List Nat×T):List (Ent T)×Lay T:=if e.2∉s.1.map (λx=>x.2.2)/\s.1.length<=600 then(s.1++[(t,e.1,e.2)],put pr beh t e.1 e.2 n s.2) else s
noncomputable def lay0:Lay T:=λj=>if j=0 then[([],t0)] else[]
noncomputable def run:Nat->List (Ent T)×Lay T
 |0=>([],lay0 t0)
 |t+1=>((run t).2 t).foldl (one n pr beh t)<|run t
structure Ok(t:Int)(rest:List (List Nat×T))(s:List (Ent T)×Lay T):Prop where
 ent:∀e∈s.1,0<=e.1/\e.1<=t/\e.1=prQ pr e.2.1/\(∀k∈e.2.1,k<n)/\e.2.2=tabQ beh t0 e.2.1
 nd:(s.1.map λx=>x.2.2).Nodup
 ly:∀ (j:Int) (x:List Nat×T),x∈s.2 j->j=prQ pr x.1/\(∀k∈x.1,k<n)/\x.2=tabQ beh t0 x.1/\(x.1=[]\/∃r k,x.1=r++[k]/\(prQ pr r,r,tabQ beh t0 r)∈s.1)
 par:∀ (i:Nat) (e:Ent T),s.1[i]? =some e->(e.2.1=[]/\i=0)\/∃r k i',e.2.1=r++[k]/\i'<i/\s.1[i']? =some (prQ pr r,r,tabQ beh t0 r)
 ch:∀e∈s.1,∀k,k<n->(e.2.1++[k],beh k e.2.2)∈s.2 (e.1+pr k)
 done:∀ (j:Int) (x:List Nat×T),j<=t->x∈s.2 j->(j=t/\x∈rest)\/(∃e∈s.1,e.2.2=x.2/\e.1<=j)\/600<(s.1.filter λe=>decide<|e.1<=j).length
 sub:∀x∈rest,x∈s.2 t
 le:s.1.length<=601
variable {n pr beh t0}
variable (n pr beh)
def HoldsP(b:Int)(B:List (Ent T)):Prop:=(∃e∈B,e.2.1=[])/\∀e∈B,∀k,k<n->e.1+pr k<=b->∃e'∈B,e'.2.2=beh k e.2.2/\e'.1<=e.1+pr k
variable {n pr beh}
end S45
end DL
namespace DL
open PySem PySem.Spec PyProof.Rows L2
variable {p:Int×Int}{L:List SK}
noncomputable def hV(p:Int×Int)(q:SQ):List Nat:=(bT p).map λws=>oI p<|onQ p q ws
noncomputable def gR(other one:List Nat):List Nat:=one.map λi=>other.getD i 0
noncomputable def jC(p:Int×Int)(nb:List Nat):List (List Int):=nb.map λi=>(bT p).getD i []
noncomputable def kI(p:Int×Int)(L:List SK)(k:Nat)(t:List (List Int)):List (List Int):=t.map<|onQ p (L.getD k AM).1
noncomputable def prK(L:List SK)(k:Nat):Int:=(L.getD k AM).2
noncomputable def mvD(p:Int×Int)(s:SK):D:=.tup [.int s.2,.tup (bJ<|hV p s.1)]
def NOk(p:Int×Int)(nb:List Nat):Prop:=nb.length=(bT p).length/\∀i∈nb,i<(bT p).length
theorem aAT(p:Int×Int)(q:SQ):(hV p q).length=(bT p).length:=by unfold hV;rw[aA]
theorem aIm(q:SQ){i:Nat}(hi:i<(bT p).length):(hV p q).getD i 0=oI p (onQ p q<|(bT p).getD i []):=by unfold hV;simp[bX,hi]
theorem aMg(hp:p∈bR){i:Nat}(hi:i<(bT p).length):Fil p ((bT p).getD i []):=lN hp<|getD_mem hi
theorem aNe(hp:p∈bR){q:SQ}(O:pQ p q){i:Nat}(hi:i<(bT p).length):(hV p q).getD i 0<(bT p).length:=by rw[aIm q hi];exact(yN hp (aAM O<|aMg hp hi)).2.1
theorem aEr(hp:p∈bR){q:SQ}(O:pQ p q){nb:List Nat}(h:NOk p nb):NOk p (gR (hV p q) nb):=by refine⟨by unfold gR;rw[aA];exact h.1,λi hi=> ?_⟩;obtain⟨j,hj,rfl⟩:=aE.mp hi;exact aNe hp O<|h.2 j hj
theorem yA(hp:p∈bR){q:SQ}(O:pQ p q){nb:List Nat}(h:NOk p nb):jC p (gR (hV p q) nb)=(jC p nb).map (onQ p q):=by
 unfold jC gR;rw[aR,aR];refine bQ λi hi=> ?_
 show(bT p).getD ((hV p q).getD i 0) []=onQ p q ((bT p).getD i []);rw[aIm q<|h.2 i hi];exact(yN hp<|aAM O (aMg hp<|h.2 i hi)).2.2
theorem xE(hp:p∈bR){a b:List Nat}(ha:NOk p a)(hb:NOk p b)(h:jC p a=jC p b):a=b:=by
 refine vT (ha.1.trans hb.1.symm) λi h1 h2=> ?_
 have e:(jC p a)[i]'(by unfold jC;rw[aA];exact h1)=(jC p b)[i]'(by unfold jC;rw[aA];exact h2):=by simp only[h]
 unfold jC at e;rw[eO,eO] at e;rw[<-yS hp (ha.2 _<|eJ h1),<-yS hp (hb.2 _<|eJ h2),e]
noncomputable def st0(p:Int×Int):List Nat:=bO (bT p).length
theorem aNA(p:Int×Int):NOk p (st0 p):=⟨by unfold st0;rw[fQ],λi hi=>bP.mp hi⟩
theorem aFb(p:Int×Int):jC p (st0 p)=bT p:=by
 unfold jC st0;refine vT (by simp) λi h1 h2=> ?_
 rw[eO,aIa];simp[bX,h2]
noncomputable def nrQ(p:Int×Int)(L:List SK)(row:List Nat):List Nat:=row.foldl (λnb k=>gR (hV p (L.getD k AM).1) nb)<|st0 p
theorem vP(row:List Nat)(k:Nat):nrQ p L (row++[k])=gR (hV p (L.getD k AM).1) (nrQ p L row):=by unfold nrQ;rw[oN];rfl
theorem qU(hp:p∈bR)(S:∀s∈L,pQ p s.1):∀ {row:List Nat},fX L row->NOk p (nrQ p L row)/\jC p (nrQ p L row)=S45.tabQ (kI p L) (bT p) row:=λ{row}=>by
 have g:∀ (row:List Nat) (nb:List Nat) (t:List (List Int)),NOk p nb->jC p nb=t->fX L row->NOk p (row.foldl (λnb k=>gR (hV p (L.getD k AM).1) nb) nb)/\jC p (row.foldl (λnb k=>gR (hV p (L.getD k AM).1) nb) nb)=row.foldl (λt k=>kI p L k t) t:=λrow=>by
  induction row with
  |nil=>exact λnb t h1 h2 _=>⟨h1,h2⟩
  |cons k row ih=>
   intro nb t h1 h2 h3;have O:pQ p (L.getD k AM).1:=S _ (DL.getD_mem<|h3 k aH);refine ih _ _ (aEr hp O h1) ?_ λj hj=>h3 j<|aI _ hj
   rw[yA hp O h1,h2];rfl
 exact λh=>g row (st0 p) (bT p) (aNA p) (aFb p) h
open Classical in
noncomputable def wL(L:List SK)(d:D):SK:=if h:∃s,s∈L/\skD s=d then h.choose else AM
theorem xY(nd:(L.map λs=>sqD s.1).Nodup){s:SK}(h:s∈L):wL L (skD s)=s:=by
 have ex:∃z,z∈L/\skD z=skD s:=⟨s,h,rfl⟩;unfold wL;rw[dif_pos ex];obtain⟨h1,h2⟩:=ex.choose_spec;generalize ex.choose=z at h1 h2;obtain⟨i,hi,ez⟩:=dE h1;obtain⟨j,hj,es⟩:=dE h
 have e:sqD z.1=sqD s.1:=by
  have h2:D.tup [sqD z.1,.int z.2]=D.tup [sqD s.1,.int s.2]:=h2;injection h2 with h2
  exact(aLF.inj h2).1
 have:i=j:=(jS (i:=i) (j:=j) (h₀:=by rw[aA];exact hi) (h₁:=by rw[aA];exact hj) nd).mp (by rw[eO,eO,ez,es,e]);subst this;exact ez.symm.trans es
def aQw:List D->R->Prop:=λds r=>∃p q,p∈bR/\pQ p q/\ds=[cF p,sqD q]/\r=.val (.tup (bJ<|hV p q))
def aDQ:List D->R->Prop:=λds r=>∃p L,p∈bR/\StkOk p L/\(L.map λs=>sqD s.1).Nodup/\ds=[cF p,.lst<|L.map skD]/\r=.own (L.map<|mvD p)
def aGJ:List D->R->Prop:=λds r=>∃one other:List Nat,one.length<=100/\(∀i∈one,i<other.length)/\ds=[.tup<|bJ one,.tup<|bJ other]/\r=.val (.tup (bJ<|gR other one))
def aDT:List D->R->Prop:=λds r=>∃ (B:List (List Int)) (nb:List Nat),nb.length<=100/\(∀i∈nb,i<B.length)/\ds=[.lst<|B.map bF,.tup<|bJ nb]/\r=.val (.tup<|(nb.map λi=>B.getD i []).map bF)
def aLZ:List D->R->Prop:=λds r=>∃p L row,p∈bR/\StkOk p L/\fX L row/\ds=[.lst (L.map<|mvD p),.tup<|bJ row,.tup (bJ<|st0 p)]/\r=.val (.tup (bJ<|nrQ p L row))
section
variable {X:Cx}{sd:List Slot}{a b:Expr}{pos:Pos}{ds:List D}{κ:Type}[DecidableEq κ]{hk:HK X.prog X.w κ}{ks:List κ}{k:κ}
theorem aNE(hu:X.A.units+2<AQ)(ha:PEd X sd a (.val<|hk.dat k))(hb:PDc X sd b hk ks ds)(hm:AT .In b=false:=by with_unfolding_all rfl):PEd X sd (.Compare a [.In] [b] pos) (.val<|.bl (decide<|k∈ks)):=.mk λσ F H S=>
 (aEu (aIn (hk:=hk)) gP gP hm).to ((ha σ F H S).imp fun v H1 ⟨F1,S1,s1,q1⟩=>(hb.get σ F1 H1 S1).imp fun u H2 ⟨F2,l,S2,s2,eu,g⟩=>by
  obtain⟨ad,rfl,hr⟩:=hk.key q1;obtain⟨o,g1,g2⟩:=g F2 H2 S2<|Same.refl _;refine⟨F2,ad,l,o,k,ks,ds,rfl,eu,S2.sub,hk.mono s2 hr,g1,g2,hu,F2,S2,s1.trans s2, ?_⟩;simp only[ResOk,Rep]
  rfl)
end
section
variable {X:Cx}{sd:List Slot}{a b:Expr}{pos:Pos}{ds:List D}{κ:Type}[DecidableEq κ]{hk:HK X.prog X.w κ}{ks:List κ}{k:κ}{kk:Bool}
theorem xD(h:kk=true↔k∈ks):decide (k∈ks)=kk:=by
 cases kk with
 |true=>exact decide_eq_true<|h.mp rfl
 |false=>exact decide_eq_false λz=>by cases h.mpr z
theorem aIs(h:kk=true↔k∈ks)(hu:X.A.units+2<AQ)(ha:PEd X sd a (.val<|hk.dat k))(hb:PDc X sd b hk ks ds)(hm:AT .In b=false:=by with_unfolding_all rfl):PEd X sd (.Compare a [.In] [b] pos) (.val<|.bl kk):=PEd.cast (aNE hu ha hb hm) (by rw[xD h])
theorem aKS(h:kk=true↔k∈ks)(hu:X.A.units+2<AQ)(ha:PEd X sd a (.val<|hk.dat k))(hb:PDc X sd b hk ks ds)(hm:AT .In b=false:=by with_unfolding_all rfl):PTd X sd (.Compare a [.In] [b] pos) kk:=PTd.cast (aKw hu ha hb hm)<|xD h
theorem aHv(h:kk=true↔k∈ks)(hu:X.A.units+2<AQ)(ha:PEd X sd a (.val<|hk.dat k))(hb:PDc X sd b hk ks ds)(hm:AT .NotIn b=false:=by with_unfolding_all rfl):PTd X sd (.Compare a [.NotIn] [b] pos) (!kk):=PTd.cast (aHz hu ha hb hm) (by rw[xD h])
end
theorem aCM(bs:List Bool):((bO bs.length).any λi=>(bs[i]?).getD false)=bs.any id:=by
 apply gI.mpr;simp only[gL,bP,id_eq]
 constructor
 ·rintro⟨i,hi,h⟩;exact⟨bs[i],eJ hi,by simpa[hi] using h⟩
 ·rintro⟨b,hb,h⟩;obtain⟨i,hi,rfl⟩:=dE hb;exact⟨i,hi,by simpa[hi] using h⟩
variable {X:Cx}{sd:List Slot}{e:Expr}{pos:Pos}
theorem aFh(hc:X.calm=true):lY X (.builtin "any") (λxs H Q=>∃ (a:BJ) (bs:List Bool),xs=[.ref a]/\SqL X.K H a (bs.map V.bl)/\Q (.bl<|bs.any id) H):=by
 intro pins s σ H xs us Q I r h;obtain⟨a,bs,rfl,ha,q⟩:=h;obtain⟨u,rfl,ru⟩:=nN r;cases ru;obtain⟨its,rv,p,hz⟩:=I.list ha;have hl:=rv.length;rw[aA] at hl;have isl:s.heap.IsList a its.toArray:=p.isList;have alt:a<s.heap.objs.size:=by obtain⟨o,ho,_⟩:=isl;exact aS ho
 refine call_any_walk<|At isl ?_;refine⟨s.heap.objs.size,[s.heap.objs.size,a],[s.heap.objs.size],its.toArray.size,_,_,λi=>(bs[i]?).getD false,rfl,Walks.list (A:=X.A.in1) (I.ok.hd hc) _ a (bS alt) its.toArray,⟨⟨_,bG _ rfl,rfl,rfl⟩,isl.push _⟩,λi v s' Q' E' hP hQ=> ?_,λh' tk hk=> ?_⟩
 ·obtain⟨b,e,rfl⟩:=aCr rv (by simpa using hP);simp only[e,aIe] at hQ;exact Aa hQ
 ·have e:((bO its.toArray.size).any λi=>(bs[i]?).getD false)=bs.any id:=by rw[aV,<-hl];exact aCM bs
  rw[e];refine⟨.bl<|bs.any id,H,I.kept (t':=tk) λb o g=>hk b o (λz=> ?_)<|aD _ g,rfl,q⟩;have zb:b=s.heap.objs.size:=by simpa using z
  exact bS (aS g) zb
theorem aJR{p:Pos}{bs:List Bool}(hg:Gl X "any")(hm:X.mg "any"=none)(ha:PEd X sd e (.bor<|bs.map D.bl))(hc:X.calm=true:=by rfl)(hst:AF [e] X.env=(false,eval e X.env)::AF [] X.env:=by rfl):PEd X sd (.Call (.Name "any" p) [e] [] pos) (.val (.bl<|bs.any id)):=
 mR (he:=hst) (aFh hc) hg hm boot_any (aC ha aO trivial hst) λσ F H vs Q S q k=>by
  cases q with
  |cons q1 q2=>cases q2;obtain⟨p,xs,rfl,hp,rl,_⟩:=q1;exact⟨p,bs,rfl,.of (by rw[<-rl.bls];exact hp),k _ F H S (Same.refl _)<|by simp only[ResOk,Rep]⟩
noncomputable abbrev Bk:=S45.Ent (List<|List Int)
noncomputable def enD(e:Bk):D:=.tup [.int e.1,.tup<|bJ e.2.1,.tup<|e.2.2.map bF]
structure BkOk(p:Int×Int)(L:List SK)(b:Int)(B:List Bk):Prop where
 len:B.length<=700
 ent:∀e∈B,e.1=S45.prQ (prK L) e.2.1/\e.1<=b/\fX L e.2.1/\e.2.1.length<=400/\e.2.2=S45.tabQ (kI p L) (bT p) e.2.1
 nd:(B.map λe=>e.2.2).Nodup
noncomputable def iD(nb:List Nat):List Key:=nb.map λ(i:Nat)=>(Sum.inl (i:Int):Key)
theorem pU(nb:List Nat):tD (iD nb)=.tup (bJ nb):=by unfold tD iD bJ;rw[aR];rfl
theorem tG:∀ {a b:List Nat},iD a=iD b->a=b
 |[],[],_=>rfl
 |[],_::_,h=>by cases h
 |_::_,[],h=>by cases h
 |x::a,y::b,h=>by
  have h:(Sum.inl (x:Int):Key)::iD a=(Sum.inl (y:Int):Key)::iD b:=h;injection h with h1 h2
  have:=Sum.inl.inj h1;rw[tG h2];congr 1;omega
noncomputable def ksB(p:Int×Int)(L:List SK)(B:List Bk):List (List Key):=B.map λe=>iD<|nrQ p L e.2.1
noncomputable def pcD(P:AD)(w:AL)(K:aB)(p:Int×Int)(L:List SK)(B:List Bk):D:=gD (hkT P w) K (ksB p L B)<|B.map λe=>.int e.1
theorem aIN(L:List SK)(row:List Nat):aJw (zL L row)=S45.prQ (prK L) row:=by
 unfold S45.prQ zL prK;generalize row.map (λt=>(L.getD t AM).2)=xs
 have g:∀n:Nat,aJw (xs.take n)=(xs.take n).sum:=λn=>by
  induction n with
  |zero=>rfl
  |succ n ih=>
   by_cases h:n<xs.length
   ·rw[aAc 0 h,aFv,ih,mJ];simp
   ·have e:xs.take (n+1)=xs.take n:=by rw[fG<|by omega,fG<|by omega]
    rw[e,ih]
 have:=g xs.length;rw[eQ] at this;exact this
variable {b:Int}{B:List Bk}
theorem BkOk.nr(hp:p∈bR)(S:StkOk p L)(O:BkOk p L b B){e:Bk}(he:e∈B):NOk p (nrQ p L e.2.1)/\jC p (nrQ p L e.2.1)=e.2.2:=by obtain⟨_,_,h3,_,h5⟩:=O.ent e he;obtain⟨q1,q2⟩:=qU hp (λs hs=>(S.st s hs).1) h3;exact⟨q1,q2.trans h5.symm⟩
theorem BkOk.inj(hp:p∈bR)(S:StkOk p L)(O:BkOk p L b B){x y:Bk}(hx:x∈B)(hy:y∈B)(h:nrQ p L x.2.1=nrQ p L y.2.1):x=y:=by
 have e:x.2.2=y.2.2:=by rw[<-(O.nr hp S hx).2,<-(O.nr hp S hy).2,h]
 obtain⟨i,hi,ex⟩:=dE hx;obtain⟨j,hj,ey⟩:=dE hy;have:i=j:=(jS (i:=i) (j:=j) (h₀:=by rw[aA];exact hi) (h₁:=by rw[aA];exact hj) O.nd).mp (by rw[eO,eO,ex,ey,e]);subst this;exact ex.symm.trans ey
noncomputable def sZ(p:Int×Int)(L:List SK)(B:List Bk)(nb:List Nat)(m:Int):Bool:=B.any λe=>decide (nrQ p L e.2.1=nb)&&decide (e.1<=m)
def aEj(P:AD)(w:AL)(K:aB):List D->R->Prop:=λds r=>∃p L b B nb m,p∈bR/\StkOk p L/\BkOk p L b B/\ds=[pcD P w K p L B,.tup<|bJ nb,.int m]/\r=.val (.bl<|sZ p L B nb m)
noncomputable def aJv(p:Int×Int)(L:List SK)(b:Int)(B:List Bk):Bool:=B.all λe=>(bO L.length).all λk=> !decide (e.1+prK L k<=b)||sZ p L B (gR (hV p (L.getD k AM).1)<|nrQ p L e.2.1) (e.1+prK L k)
def aEo(P:AD)(w:AL)(K:aB):List D->R->Prop:=λds r=>∃p L b B,p∈bR/\StkOk p L/\BkOk p L b B/\ds=[.lst (L.map<|mvD p),.int b,pcD P w K p L B]/\r=.val (.bl<|aJv p L b B)
def aIW:List D->R->Prop:=λds r=>∃p L b B,BkOk p L b B/\0<=b/\ds=[.int b,.lst<|B.map enD]/\r=.val (.bl (B.any λe=>decide<|e.2.1=[]))
theorem aAb(hp:p∈bR)(S:StkOk p L)(O:BkOk p L b B):((B.any λe=>decide<|e.2.1=[])&&aJv p L b B)=true↔S45.HoldsP L.length (prK L) (kI p L) b B:=by
 rw[bC,gL];unfold S45.HoldsP;refine and_congr ⟨λ⟨e,h1,h2⟩=>⟨e,h1,of_decide_eq_true h2⟩,λ⟨e,h1,h2⟩=>⟨e,h1,decide_eq_true h2⟩⟩ ?_;unfold aJv;rw[bZ];refine⟨λh e he k hk hle=> ?_,λh e he=> ?_⟩
 ·have:=bZ.mp (h e he) k<|bP.mpr hk;rw[decide_eq_true hle] at this;have:sZ p L B (gR (hV p (L.getD k AM).1)<|nrQ p L e.2.1) (e.1+prK L k)=true:=by simpa using this
  obtain⟨x,x1,x2⟩:=gL.mp this;rw[bC] at x2;have y1:=of_decide_eq_true x2.1;refine⟨x,x1, ?_,of_decide_eq_true x2.2⟩;obtain⟨n1,n2⟩:=O.nr hp S he;have Ok:=(S.st _<|DL.getD_mem (d:=(AM:SK)) hk).1;rw[<-(O.nr hp S x1).2,y1,yA hp Ok n1,n2];rfl
 ·rw[bZ];intro k hk;have hk:=bP.mp hk
  by_cases hle:e.1+prK L k<=b
  ·obtain⟨x,x1,x2,x3⟩:=h e he k hk hle;obtain⟨n1,n2⟩:=O.nr hp S he;have Ok:=(S.st _<|DL.getD_mem (d:=(AM:SK)) hk).1
   have:sZ p L B (gR (hV p (L.getD k AM).1) (nrQ p L e.2.1)) (e.1+prK L k)=true:=gL.mpr ⟨x,x1,by
    rw[bC];refine⟨decide_eq_true<|xE hp (O.nr hp S x1).1 (aEr hp Ok n1) ?_,decide_eq_true x3⟩;rw[(O.nr hp S x1).2,yA hp Ok n1,n2,x2]
    rfl⟩
   rw[this,aQj]
  ·rw[decide_eq_false hle];rfl
variable {prog:AD}{w:AL}{A:BK}{E:BH->BI->Prop}{s:BI}{r:BJ}{n:Nat}{t u v:Tok}
theorem aAs{Q:List BH->BI->Prop}(hh:A.handled=none)(ir:IsRange s.heap r 0 (n:Int) 1 t u v)(hn:n<=1000)
  (q:∀ (h':BL) (tk:Nat) (acc:Array BH),(∀b o,s.heap.get? b=some o->h'.get? b=some o)->ItemsOf (λi v=>∃t,v=.int (0+i*1) t) acc n->Q acc.toList {s with heap:=h',toks:=tk}):AI (AG prog w) A (collect<|.ref r) Q E s:=by
 have sz:Builtin.Range.rangeSize 0 (n:Int) 1=(n:Int):=by
  rw[rangeSize_one]
  split<;>omega
 have fin:∀ (h':BL) (tk:Nat) (acc:Array BH) (c':Nat),(∀b o,s.heap.get? b=some o→h'.get? b=some o)→h'.get? s.heap.objs.size=some {cls:= .type "list",dict:=none,data:= .seq acc c',slots:= #[]}→ItemsOf (fun i v=>∃t,v= .int (0+i * 1) t) acc n→AI (AG prog w) A (do
   let o <-load s.heap.objs.size
   match o.data with
   |.seq xs _=>pure xs.toList
   |_=>unsupported "internal:collect") Q E {s with heap:=h',toks:=tk}:=λh' tk acc c' k1 k2 k3=>AA (wpAny_load k2 (AB (q h' tk acc k1 k3)))
 have new:(s.heap.push {cls:=.type "list",data:=.seq ([]:List BH).toArray}).get? s.heap.objs.size=some {cls:=.type "list",data:=.seq #[]}:=bG _ rfl;have main:=wpAny_extend_range (prog:=prog) (w:=w) (A:=A) (s:={s with heap:=s.heap.push {cls:=.type "list",data:=.seq ([]:List BH).toArray}}) (R:=λ(x:Result) (st:BI)=>∃ (h':BL) (tk:Nat) (acc:Array BH) (c':Nat),x=.ok (.ret<|.ref s.heap.objs.size)/\st={s with heap:=h',toks:=tk}/\(∀b o,s.heap.get? b=some o->h'.get? b=some o)/\h'.get? s.heap.objs.size=some {cls:=.type "list",dict:=none,data:=.seq acc c',slots:= #[]}/\ItemsOf (λi v=>∃t,v=.int (0+i*1) t) acc n) hh (aD _ ir) (small_one (by omega) (by omega) (by omega)<|by omega) sz (by omega) s.heap.objs.size (.ref s.heap.objs.size) 0 new λh' tk acc c' k1 k2 k3=>⟨h',tk,acc,c',rfl,rfl,λb o g=>k1 b o (bS<|aS g)<|aD _ g,k2,k3⟩
 unfold collect;refine AA (wpAny_runValue<|Ai entry_proto_collect' ?_);rw[Around.under_plainId PySem.F.plain_proto_collect _];refine AA (m:=newList []) (AR<|AB ⟨Az aAD _,Ai entry_list_iadd' ?_⟩);rw[Around.under_plainId aAD _];refine Ac main (λz st x=> ?_) λz st x=> ?_
 ·cases z with
  |done f=>obtain⟨h',tk,acc,c',e,rfl,k1,k2,k3⟩:=x;cases e;exact fin h' tk acc c' k1 k2 k3
  |again c1=>refine⟨x.1,Aw x.2 λy st y2=> ?_⟩;obtain⟨h',tk,acc,c',rfl,rfl,k1,k2,k3⟩:=y2;exact fin h' tk acc c' k1 k2 k3
 ·obtain⟨_,_,_,_,e,_⟩:=x;cases e
theorem aAz(r:BJ)(n:Nat)(t u v:Tok)(hn:n<=1000):Meets (Builtin.«tuple.__new__» ⟨[.type "tuple",.ref r],[]⟩) (λA R s=>A.handled=none/\IsRange s.heap r 0 (n:Int) 1 t u v/\∀ (h':BL) (tk:Nat) (acc:Array BH),(∀b o,s.heap.get? b=some o->h'.get? b=some o)->ItemsOf (λi v=>∃t,v=.int (0+i*1) t) acc n->R (.ok (.ret<|.ref h'.objs.size)) {s with heap:=h'.push {cls:=.type "tuple",data:=.seq acc},toks:=tk}):=
 .of_wp λprog w A R s h=>by
  obtain⟨hp,gn,dr,tk,os⟩:=s;obtain⟨hh,ir,q⟩:=h;have a1:=sub_tuple_self;have a2:=init_tuple_lookup;have a3:=madeHere_tuple;have ty:Shared.TypeIs ⟨hp,gn,dr,tk,os⟩ (.ref r) "range":=⟨_,ir,rfl⟩;have hh1:A.in1.handled=none:=hh
  wp_walk using AutoSeq1.wpAny_loadPart' ir,wpAny_typeOf ty,aAs (s:=⟨hp,gn,dr,tk,os⟩) hh1 ir hn
  intro h' tk' acc k1 k2;refine AA (m:=Builtin.Tuple.tupleExact acc.toList.toArray) ?_;unfold Builtin.Tuple.tupleExact;have e:acc.toList.toArray=acc:=by simp
  rw[e];exact AR (AB ⟨_,rfl,q h' tk' acc k1 k2⟩) (show acc.size<=AN by rw[k2.1];exact dG<|gQ hn)
theorem zI{Q:BH->BI->Prop}(hh:A.handled=none)(ir:IsRange s.heap r 0 (n:Int) 1 t u v)(hn:n<=1000)
  (q:∀ (h':BL) (tk:Nat) (acc:Array BH),(∀b o,s.heap.get? b=some o->h'.get? b=some o)->ItemsOf (λi v=>∃t,v=.int (0+i*1) t) acc n->Q (.ref h'.objs.size) {s with heap:=h'.push {cls:=.type "tuple",data:=.seq acc},toks:=tk}):AI (AG prog w) A (call (.type "tuple") [.ref r]) Q E s:=
 callType_new F.called_tuple (by decide) (F.typeCall_tuple_1 _) (F.newCall_tuple_1 _) (λobj=>F.args_object_init_2 obj _) F.entry_tuple_new (aAz r n t u v hn) ⟨hh,ir,λh' tk acc k1 k2=>⟨⟨_,bG _ rfl,rfl⟩,q h' tk acc k1 k2⟩⟩
theorem uM{p p2 q2:Pos}(hg:Gl X "tuple")(hm:X.mg "tuple"=none)(hg2:Gl X "range")(hm2:X.mg "range"=none)(ha:PEd X sd e (.val<|.int (n:Int)))(h1:n<=1000)
  (hc:X.calm=true:=by rfl) (hst:AF [e] X.env=(false,eval e X.env)::AF [] X.env:=by rfl) (hst2:AF [.Call (.Name "range" p2) [e] [] q2] X.env=(false,eval (.Call (.Name "range" p2) [e] [] q2) X.env)::AF [] X.env:=by rfl):
  PEd X sd (.Call (.Name "tuple" p) [.Call (.Name "range" p2) [e] [] q2] [] pos) (.val<|.tup (bJ<|bO n)):=.mk λσ F H S pins s I=>by
 refine Ad (nF I hg hm PyProof.Rows.boot_tuple<|PyProof.Rows.callWith_type1 ?_ hst2 rfl);rw[hst2];refine Calls.spliced_cons (Ad<|nF I hg2 hm2 boot_range ?_);refine PyProof.Rows.callWith_type1 (thn ((iH (te:=wE X e) gP pa_nil hst) q2 pins s σ H (λus H1=>∃v F1,us=[v]/\StF X.K X.B₀ F1 H1 σ sd/\Same F F1/\ResOk X.K F1 H1 sd (.val<|.int (n:Int)) v) I<|(ha σ F H S).imp λv H1 ⟨F1,S1,s1,q1⟩=>⟨v,F1,rfl,S1,s1,q1⟩) λus s1 hus=> ?_) hst rfl;obtain⟨ws,H1,I1,rv,v,F1,rfl,S1,sF,q1⟩:=hus;obtain⟨u,rfl,ru⟩:=nN rv;simp only[ResOk,Rep] at q1;subst q1;obtain⟨t,rfl⟩:=ru;refine call_range_1<|Calls.spliced_nil ?_;refine zI (I1.ok.hd hc) (IsRange.new ..) h1 λh' tk acc kp it=> ?_
 have kp2:∀b o,s1.heap.get? b=some o->h'.get? b=some o:=λb o g=>kp b o<|aD _ g
 have le:s1.heap.objs.size<=h'.objs.size:=dG<|aS (kp s1.heap.objs.size _<|bG _ rfl);have hD:H1 h'.objs.size=none:=I1.hok.fresh le;have ln:acc.toList.length=n:=by rw[cM];exact it.1
 have vl:Vals ((bO n).map λ(k:Nat)=>V.int (k:Int)) acc.toList:=by
  have g:∀ (l:List BH) (f:Nat->Int),(∀ (j:Nat) (v:BH),l[j]? =some v->∃t,v=.int (f j) t)->Vals ((bO l.length).map λ(k:Nat)=>V.int<|f k) l:=λl=>by
   induction l with
   |nil=>intro f _;exact .nil
   |cons x l ih=>intro f h;obtain⟨t,e⟩:=h 0 x rfl;rw[bU,List.range_succ_eq_map,aZ,aR];exact .cons ⟨t,e⟩ (ih (λk=>f<|k+1) λj v hv=>h (j+1) v<|by simpa using hv)
  have:=g acc.toList (λk=>(k:Int)) λj v hv=>by obtain⟨t,e⟩:=it.2 j v (by rw[<-cX];exact hv);exact⟨t,by rw[e];congr 1;omega⟩
  rw[ln] at this;exact this
 have I3:Inv X pins σ (upd H1 h'.objs.size (.tup<|(bO n).map λ(k:Nat)=>V.int (k:Int))) {s1 with heap:=h'.push {cls:=.type "tuple",data:=.seq acc},toks:=tk}:=
  I1.laid (λb o g=>aD _<|kp2 b o g) le ⟨by rw[aA,fQ];exact dG<|gQ h1,acc.toList,vl,by simpa using IsTupD.new h' acc⟩
 obtain⟨S4,s4⟩:=S1.lay (o:=.tup<|(bO n).map λ(k:Nat)=>V.int (k:Int)) hD trivial;refine⟨.ref h'.objs.size,_,I3,rfl,_,S4,sF.trans s4, ?_⟩;simp only[ResOk,Rep];refine⟨_,_,rfl,cG, ?_⟩
 have gg:∀ks:List Nat,RepL X.K (upd F1 h'.objs.size (.tup<|(bO n).map λ(k:Nat)=>V.int (k:Int))) (ks.map λ(k:Nat)=>D.int (k:Int)) (ks.map λ(k:Nat)=>V.int (k:Int)):=λks=>by
  induction ks with
  |nil=>exact .nil
  |cons k ks ih=>exact .cons (by simp only[Rep]) ih
 exact gg _
noncomputable def mx1(c:Int)(k:Nat):Int:=(c%2147483647+69621*(k:Int)+7919)*48271%2147483647
noncomputable def mx2(c:Int)(k:Nat):Int:=mx1 c k*mx1 c k%2147483629
noncomputable def mxS(c:Int)(k:Nat):Int:=if c%2=0 then c / ((2^(8*k+1):Nat):Int) else(mx2 c k*mx2 c k+16807*(k:Int))%2147483587
def CMx:List D->R->Prop:=λds r=>∃ (c:Int) (k:Nat),ds=[.int c,.int (k:Int)]/\k<=400/\r=.val (.int<|mxS c k)
def aLV:List D->R->Prop:=λds r=>∃p q ws,pQ p q/\Fil p ws/\ds=[cF p,sqD q,bF ws]/\r=.val (.int<|nwQ p q ws)
def aIl:List D->R->Prop:=λds r=>∃p q ws,pQ p q/\Fil p ws/\ds=[cF p,sqD q,bF ws]/\r=.val (bF<|onQ p q ws)
noncomputable def drQ(p:Int×Int)(c:Int):SQ:=((mxS c 1%10).toNat,mxS c 2%p.2,mxS c 4%p.2,mxS c 3%((2^p.1.toNat:Nat):Int))
def aMq:List D->R->Prop:=λds r=>∃p c,p∈bR/\ds=[cF p,.int c]/\r=.val (sqD<|drQ p c)
theorem aNh(hp:p∈bR)(c:Int):pQ p (drQ p c):=by
 obtain⟨h1,h2,h3,h4,h5⟩:=xQ p hp;have p20:(0:Int)<p.2:=by omega
 have m0:=pw0 p.1.toNat;have d1:=cK (mxS c 1) (show(0:Int)<10 by decide);exact⟨hp,by show(mxS c 1%10).toNat<10;omega,⟨dM _<|lM p20,cK _ p20⟩,⟨dM _<|lM p20,cK _ p20⟩,⟨dM _<|lM m0,cK _ m0⟩⟩
theorem lR{α:Type}{f:α->D}{L:List α}{t:Nat}{d:D}(h:(L.map f)[t]? =some d):∃x,L[t]? =some x/\d=f x/\L.take (t+1)=L.take t++[x]:=by rw[bA] at h;obtain⟨x,h1,h2⟩:=iV.mp h;exact⟨x,h1,h2.symm,by rw[fO,h1];rfl⟩
theorem aJT{α:Type}{L:List α}(nd:L.Nodup){t:Nat}{x:α}(h:L[t]? =some x):x∉L.take t:=λz=>by
 obtain⟨i,hi,e⟩:=dE z;have il:i<t:=by rw[cO] at hi;omega
 rw[aJp] at e;obtain⟨t1,e2⟩:=aK.mp h;have:=(jS nd).mp<|e.trans e2.symm;omega
theorem aGa(hp:p∈bR):(bT p).Nodup:=by
 have e:(bT p).map (oI p)=bO (bT p).length:=by
  refine vT (by simp) λi h1 h2=> ?_
  have hi:i<(bT p).length:=by simpa using h1
  rw[eO,aIa];have:=yS hp hi;simpa[bX,hi] using this
 have nd:((bT p).map<|oI p).Nodup:=by rw[e];exact pG
 exact List.Pairwise.of_map _ (λa b h z=>h<|by rw[z]) nd
noncomputable def inK(ws:List Int):List Key:=ws.map λ(i:Int)=>(Sum.inl i:Key)
theorem aMA(ws:List Int):tD (inK ws)=bF ws:=by unfold tD inK bF;rw[aR];rfl
theorem aEh:∀ {a b:List Int},inK a=inK b->a=b
 |[],[],_=>rfl
 |[],_::_,h=>by cases h
 |_::_,[],h=>by cases h
 |x::a,y::b,h=>by
  have h:(Sum.inl x:Key)::inK a=(Sum.inl y:Key)::inK b:=h;injection h with h1 h2
  rw[aEh h2,Sum.inl.inj h1]
noncomputable def mgD(P:AD)(w:AL)(K:aB)(p:Int×Int)(s:SK):D:=gD (hkT P w) K ((bT p).map inK) ((bT p).map λws=>bF<|onQ p s.1 ws)
def aQk(P:AD)(w:AL)(K:aB):List D->R->Prop:=λds r=>∃p L,p∈bR/\StkOk p L/\ds=[cF p,.lst<|L.map skD]/\r=.own (L.map<|mgD P w K p)
noncomputable def yB(L:List SK)(q:SQ):Bool:=(L.map λs=>sqD s.1).any λz=>deq z<|sqD q
theorem aKj{q:SQ}(h:yB L q=false):sqD q∉L.map λs=>sqD s.1:=λhm=>by
 unfold yB at h;have:=aJn.mp h _ hm
 exact this (yU _ (by
  show pl (jF _ _ _ _)=true;unfold jF
  split
  ·rfl
  ·split<;>rfl))
namespace S45
section
variable {T:Type}[DecidableEq T]{n:Nat}{pr:Nat->Int}{beh:Nat->T->T}{t0:T}
theorem len_pr:∀ (row:List Nat),(∀k∈row,1<=pr k)->(row.length:Int)<=prQ pr row
 |[],_=>zF _
 |k::row,h=>by
  have:=len_pr row λj hj=>h j<|aI _ hj
  have h1:=h k aH;show((row.length+1:Nat):Int)<=(pr k::row.map pr).sum;rw[aOz];have:prQ pr row=(row.map pr).sum:=rfl;omega
end
end S45
noncomputable abbrev St45:=List Bk×S45.Lay (List<|List Int)
theorem StkOk.pr(S:StkOk p L):∀k,k<L.length->1<=prK L k:=λk hk=>(S.st _<|DL.getD_mem (d:=(AM:SK)) hk).2.1
theorem xB(hp:p∈bR)(S:StkOk p L){row:List Nat}(h:fX L row):∀ws∈S45.tabQ (kI p L) (bT p) row,ws∈bT p:=λws hw=>by obtain⟨q1,q2⟩:=qU hp (λs hs=>(S.st s hs).1) h;rw[<-q2] at hw;obtain⟨i,hi,rfl⟩:=aE.mp hw;exact DL.getD_mem<|q1.2 i hi
theorem aFZ(hp:p∈bR)(S:StkOk p L){row:List Nat}(h:fX L row):(S45.tabQ (kI p L) (bT p) row).length<=64:=by obtain⟨q1,q2⟩:=qU hp (λs hs=>(S.st s hs).1) h;rw[<-q2];unfold jC;rw[aA,q1.1];exact kA hp
end DL
namespace L2
open PySem PySem.Spec PyProof.Rows
end L2
namespace DL
open PySem PySem.Spec PyProof.Rows L2
variable {p:Int×Int}{L:List SK}{b:Int}{B C:List Bk}
noncomputable def aOD(p:Int×Int)(L:List SK)(b:Int)(B:List Bk):Bool:=(B.any λe=>decide<|e.2.1=[])&&aJv p L b B
theorem aPx(hp:p∈bR)(S:StkOk p L)(O:BkOk p L b B)(h:S45.HoldsP L.length (prK L) (kI p L) b B):aOD p L b B=true:=(aAb hp S O).mpr h
section
variable {prog:AD}{w:AL}{K:Type}[DecidableEq K]{knd:HeapKind prog w K}{A:BK}{E:BH->BI->Prop}{s:BI}
theorem aAx{d a:BJ}{xs:List (K×BJ×BH)}{k:K}{j:Nat}{p:BJ×BH}{Q:Option DictEntry->BI->Prop}(hu:knd.room A)(hkey:knd.is s.heap k a)(hm:s.heap.DictOfH knd d xs)(hj:xs[j]? =some (k,p))
  (hQ:∀h',h'.DictOfH knd d (xs.eraseIdx j)->Heap.SameBut d s.heap h'->Q (some<|entryOfKey knd (k,p)) {s with heap:=h',toks:=s.toks+knd.draws k})
  (hsz:xs.length<=AN):
  AI (AG prog w) A (Builtin.Dict.takeOut d<|.ref a) Q E s:=by
 obtain⟨o,es,ep,ho,hc,hd,he,his,hn⟩:=hm;have hes:es.size<=AN:=by have e:=Ay he;omega
 unfold Builtin.Dict.takeOut
 try with_reducible refine AV ?_
 refine AA<|knd.pyHash hu hkey ?_;refine AA<|wpAny_dictFind_heap (s:={s with toks:=s.toks+knd.draws k}) hu hkey ho hd he his hn (λno=>absurd hj<|no j p) λj' p' hj'=> ?_
 have ej:j'=j:=by obtain⟨i1,e1⟩:=aK.mp hj';obtain⟨i2,e2⟩:=aK.mp hj;refine(jS (i:=j') (j:=j) (h₀:=by rw[aA];exact i1) (h₁:=by rw[aA];exact i2) hn).mp ?_;rw[eO,eO,e1,e2]
 subst ej;rw[hj] at hj';cases hj';refine AA<|Am (s:={s with toks:=s.toks+knd.draws k}) ho hd ?_;rw[entry_at he j',hj];refine AA (wpAny_updateDictKeys (hz:=hes) (s:={s with toks:=s.toks+knd.draws k}) ho hd<|AB (hQ _ ⟨_,_,ep+1,fV _ ho (Obj.isFreed_of_dict<|Obj.data_mapDictKeys hd _),hc.mapDictKeys _,Obj.data_mapDictKeys hd _, ?_,λx hx=> ?_, ?_⟩<|Heap.SameBut.update ..))
 ·have:(es.eraseIdxIfInBounds j').toList=es.toList.eraseIdx j':=by obtain⟨l⟩:=es;simp
  rw[this,he,aAq]
 ·exact knd.keeps (his x<|kG hx) ho hd<|Heap.SameBut.update ..
 ·exact hn.sublist<|(qN _ _).map _
end
section
variable {prog:AD}{w:AL}{K:Type}[DecidableEq K](knd:HeapKind prog w K)(d a:BJ)
theorem aDl:
  MeetsIn prog w (Builtin.«dict.pop» ⟨[.ref d, .ref a],[]⟩) (fun A R s=>knd.room A.in1∧∃k xs j p,knd.is s.heap k a∧s.heap.DictOfH knd d xs∧xs.length≤AN∧xs[j]? =some (k,p)∧
   ∀h',h'.DictOfH knd d (xs.eraseIdx j)->Heap.SameBut d s.heap h'->R (.ok (.ret p.2)) {s with heap:=h',toks:=s.toks+knd.draws k}):=
 .of_wp λA R s ⟨hu,k,xs,j,p,hkey,hm,hz,hj,h⟩=>by
  unfold Builtin.«dict.pop»;refine AA ?_;unfold Builtin.Dict.keyAndDefault;refine AA<|BA hm.typeIs ?_;show AI _ _ (pure (d,Value.ref a,none)) _ _ s;refine AB ?_;have hp:(keyPart<|Value.ref a).isSome=false:=rfl;simp only[hp,aX,if_false];obtain⟨o,es,ep,ho,hc,hd,he,his,hn⟩:=id hm;refine AA<|Am ho hd (AA<|AB ?_)
  have ne:es.isEmpty=false:=by have e:=Ay he;have:=(aK.mp hj).1;rw[Array.isEmpty_eq_false_iff_exists_mem];exact⟨es[0],Array.getElem_mem<|by omega⟩
  simp only[ne,aX,if_false];refine AA<|aAx hu hkey hm hj (λh' hm' hs'=> ?_) hz;simp only[Option.isNone_some,aX,if_false];exact AA (wpAny_letGo<|AB ⟨_,rfl,h h' hm' hs'⟩)
end
variable {X:Cx}{pins:List (BJ×BM)}{σ:St}{H:Hp}{s:BI}{sts:List BN}
noncomputable abbrev reB(X:Cx)(B:Hp)(h:∀b o,X.H₀ b=some o->aGC o->B b=some o):Cx:={X with B₀:=B,hB:=h}
theorem aLb{B:Hp}{hb:∀b o,X.H₀ b=some o->aGC o->B b=some o}(I:Inv X pins σ H s):Inv (reB X B hb) pins σ H s:=
 ⟨⟨I.ok.mod,I.ok.kind,I.ok.glob,I.ok.blt,I.ok.above,I.ok.inj,I.ok.has,I.ok.cab,I.ok.hd,I.ok.frames,I.ok.stk,I.ok.exf,I.ok.bs,I.ok.bsz,I.ok.noex,I.ok.exfs,I.ok.funs,I.ok.frf⟩,I.os,I.bare,I.base,I.loc,I.cell,I.free,I.freeC,I.pin,I.hok,I.len⟩
theorem vS{B:Hp}{hb:∀b o,X.H₀ b=some o->aGC o->B b=some o}(I:Inv (reB X B hb) pins σ H s):Inv X pins σ H s:=
 ⟨⟨I.ok.mod,I.ok.kind,I.ok.glob,I.ok.blt,I.ok.above,I.ok.inj,I.ok.has,I.ok.cab,I.ok.hd,I.ok.frames,I.ok.stk,I.ok.exf,I.ok.bs,I.ok.bsz,I.ok.noex,I.ok.exfs,I.ok.funs,I.ok.frf⟩,I.os,I.bare,I.base,I.loc,I.cell,I.free,I.freeC,I.pin,I.hok,I.len⟩
theorem aKW{B:Hp}{hb:∀b o,X.H₀ b=some o->aGC o->B b=some o}{D:uU}(h:wSs (reB X B hb) sts D σ H):wSs X sts D σ H:=λpins s I=>thn (h pins s<|aLb I) λf s' q=>by
 cases f with
 |next=>obtain⟨σ',H',I',q⟩:=q;exact⟨σ',H',vS I',q⟩
 |brk=>obtain⟨σ',H',I',q⟩:=q;exact⟨σ',H',vS I',q⟩
 |cont=>obtain⟨σ',H',I',q⟩:=q;exact⟨σ',H',vS I',q⟩
 |ret u=>obtain⟨v,σ',H',I',r,q⟩:=q;exact⟨v,σ',H',vS I',r,q⟩
noncomputable def spP(K:aB)(n:Nat)(C:List D->List D->R->Prop):Sp:=λvs H Q _=>vs.length=n/\∃ (l:BJ) (us:List V) (F:Hp) (xs:List V) (ds0 ds:List D) (r:R),vs=.ref l::us/\F l=none/\H=upd F l (.lst xs)/\Smp F/\RepL K F ds0 xs/\RepL K F ds us/\C ds0 ds r/\∀v H',aDs K F H' r v->Q v H'
structure aQd(P:AD)(w:AL)(K:aB)(mg:Str->Option BH)(base:BL)(x:Str)(k n:Nat)(C:List D->List D->R->Prop):Prop where
 ex:∃ (f:BJ) (fd:AW) (ps:List Str),mg x=some (.ref f)/\eG K (.ref f)=true/\Binds K fd ps []/\FnOk P w K mg base CX0 k f fd ps (spP K n C)
structure Lent(K:aB) where
 α:Type
 ad:α->BJ
 own:α->List BJ
 G:α->V->Hp->Hp->Prop
 hv:∀ {a:α}{v:V}{F H:Hp},G a v F H->v=.ref (ad a)
noncomputable def Lent.sl{K:aB}(Z:Lent K)(a:Z.α):Slot:=.ox (Z.own a)<|Z.G a
variable {K:aB}(Z:Lent K)
noncomputable def spL(n:Nat)(C:Z.α->List D->(Z.α->Prop)->Prop):Sp:=λvs H Q _=>vs.length=n/\∃ (v:V) (us:List V) (F:Hp) (a:Z.α) (ds:List D) (post:Z.α->Prop),vs=v::us/\Same F H/\(∀b,b∉Z.own a->H b=F b)/\Smp H/\jB K F H (Z.sl a) (some v)/\(Z.own a).Nodup/\RepL K F ds us/\C a ds post/\(∀a',post a'->Z.ad a'=Z.ad a)/\
 ∀H',(∃F' a',post a'/\Same F F'/\Same F' H'/\Smp H'/\jB K F' H' (Z.sl a') (some v)/\(Z.own a').Nodup)->Q .non H'
noncomputable def spM(n:Nat)(C:Z.α->List D->(Z.α->Prop)->Prop):Sp:=λvs H Q _=>vs.length=n/\Smp H/\∃ (v:V) (us:List V) (F:Hp) (a:Z.α) (ds:List D) (post:Z.α->Prop),vs=v::us/\Same F H/\jB K F H (Z.sl a) (some v)/\(Z.own a).Nodup/\RepL K F ds us/\C a ds post/\(∀a',post a'->Z.ad a'=Z.ad a)/\
 ∀F' H' a',post a'->Same F F'->Same F' H'->Smp H'->jB K F' H' (Z.sl a') (some v)->(Z.own a').Nodup->(∀b o,b∉Z.own a->H b=some o->H' b=some o)->(∀b o,b∉Z.own a->H b=some o->F b=none->F' b=none/\b∉Z.own a')->Q .non H'
open Classical in
noncomputable def yK(as:List BJ)(F H:Hp):Hp:=λb=>if b∈as then H b else F b
open Classical in
noncomputable def mL(as:List BJ)(F H:Hp):Hp:=λb=>if b∈as then F b else sR F H b
theorem nQ{as:List BJ}{F:Hp}:Same F (mL as F H):=λb o e=>by
 unfold mL
 by_cases h:b∈as
 ·rw[if_pos h];exact e
 ·rw[if_neg h];exact sJ _ _ e
theorem sY{as:List BJ}{F:Hp}{b:BJ}(hb:b∉as)(h:F b=none):mL as F H b=H b:=by unfold mL;rw[if_neg hb];exact rY h
theorem aAU{as:List BJ}{F:Hp}{b:BJ}(hb:b∈as):yK as F H b=H b:=by unfold yK;rw[if_pos hb]
theorem sA{as:List BJ}{F:Hp}{b:BJ}(hb:b∉as):yK as F H b=F b:=by unfold yK;rw[if_neg hb]
theorem FnOk.framedL{P:AD}{w:AL}{Z:Lent K}{mg:Str->Option BH}{base:BL}{k n:Nat}{f:BJ}{fd:AW}{ps:List Str}{C:Z.α->List D->(Z.α->Prop)->Prop}(G:FnOk P w K mg base CX0 k f fd ps (spL Z n C)):FnOk P w K mg base CX0 k f fd ps (spM Z n C):=by
 have res:∀ {F H:Hp}{a:Z.α}{v:V},Same F H->jB K F H (Z.sl a) (some v)->Same F (yK (Z.own a) F H)/\Same (yK (Z.own a) F H) H/\jB K F (yK (Z.own a) F H) (Z.sl a) (some v):=λ{F H a v} sF so=>by
  obtain⟨v',ev,ow,gg⟩:=so;refine⟨λb o e=> ?_,λb o e=> ?_,v',ev,λb hb=>⟨(ow b hb).1, ?_⟩,λF' H' s k=>gg F' H' s λb hb ob e=>k b hb ob<|by rw[aAU hb];exact e⟩
  ·by_cases h:b∈Z.own a
   ·rw[(ow b h).1] at e;cases e
   ·rw[sA h];exact e
  ·by_cases h:b∈Z.own a
   ·rw[aAU h] at e;exact e
   ·rw[sA h] at e;exact sF b o e
  ·rw[aAU hb];exact(ow b hb).2
 refine⟨λvs H Q E h=> ?_,λA outer s H args us vs Q E hr e0 hb rv h=> ?_⟩
 ·obtain⟨hl,sm,v,us,F,a,ds,post,e,sF,so,nd,rl,c,hp,_⟩:=h;obtain⟨q1,q2,q3⟩:=res sF so;exact G.len vs (yK (Z.own a) F H) (λ_ _=>True) E ⟨hl,v,us,F,a,ds,post,e,q1,λb hb=>sA hb,sm.sub q2,q3,nd,rl,c,hp,λ_ _=>trivial⟩
 ·obtain⟨hl,sm,v,us',F,a,ds,post,ev,sF,so,nd,rl,c,hp,q⟩:=h;obtain⟨q1,sU,q3⟩:=res sF so;obtain⟨_,_,ow,_⟩:=id so;have nU:∀b,b∉Z.own a->F b=none->yK (Z.own a) F H b=none:=λb hbl n=>by rw[sA hbl];exact n
  have e1:aLE P w K mg base A outer s (yK (Z.own a) F H):=⟨e0.frames,e0.mod,λb o e=>⟨(e0.bs b o e).1,sU.free (e0.bs b o e).2⟩,e0.bsz,e0.funs,λb hb=>sU.free<|e0.frf b hb,λb o e=>(e0.hok b o<|sU b o e).smp (sm b o<|sU b o e),e0.bare⟩;refine Aw (G.run A outer s (yK (Z.own a) F H) args us vs (λv3 F3=>v3=.non/\∃F' a',post a'/\Same F F'/\Same F' F3/\Smp F3/\jB K F' F3 (Z.sl a') (some v)/\(Z.own a').Nodup) E hr e1 hb rv ⟨hl,v,us',F,a,ds,post,ev,q1,λb hb=>sA hb,sm.sub sU,q3,nd,rl,c,hp,λH' z=>⟨rfl,z⟩⟩) λrr s' hrr=> ?_
  cases rr with
  |error e=>exact hrr
  |ok flw=>
   cases flw with
   |ret u=>
    obtain⟨v3,F3,ho,ha,un,hk,ru,e3,F2,a',pa,s1,s2,sm3,so3,nd3⟩:=hrr;subst e3
    have keepF:∀b o,b∉Z.own a->H b=some o->F b=none->F3 b=none:=λb o hbl e n=>by
     have lt:=e0.hok.lt e;cases g:s.heap.get? b with
     |none=>
      exfalso;have ob:=e0.hok b o e;have z:=sm b o e;cases o with
      |lst xs=>obtain⟨_,_,_,_,g'⟩:=ob;rw[g] at g';cases g'
      |tup xs=>obtain⟨_,_,_,oo,g',_⟩:=ob;rw[g] at g';cases g'
      |dK kvs=>obtain⟨_,_,_,_,oo,_,_,g',_⟩:=ob;rw[g] at g';cases g'
      |frz o2 u2=>obtain⟨g',_⟩:=ob;rw[g] at g';cases g'
      |ext φ=>obtain⟨_,⟨oo,g'⟩,_⟩:=ob;rw[g] at g';cases g'
      |_=>exact z
     |some ob=>exact un.free b ob g (nU b hbl n)<|by simp
    have keepO:∀b o,b∉Z.own a->H b=some o->F b=none->∀ob,s.heap.get? b=some ob->s'.heap.get? b=some ob:=λb o hbl e n ob g=>un.keep b ob g (nU b hbl n) (λhb=>by have:=e0.frf b hb;rw[e] at this;cases this)<|by simp
    have sH:∀b o,b∉Z.own a->H b=some o->mL (Z.own a) F3 H b=some o:=λb o hbl e=>by
     cases g:F b with
     |none=>rw[sY hbl<|keepF b o hbl e g];exact e
     |some o'=>have:=sF b o' g;rw[e] at this;cases this;exact nQ _ _ (s2 _ _<|s1 _ _ g)
    have nl:∀ {b:BJ}{o:HO},H b=some o->¬ Wr b o->b∉Z.own a:=λe no z=>by obtain⟨_,ob,g,wr⟩:=ow _ z;rw[e] at g;cases g;exact no wr
    have nn:∀ {b:BJ},H b=none->b∉Z.own a:=λe z=>by obtain⟨_,ob,g,_⟩:=ow _ z;rw[e] at g;cases g
    have smM:Smp (mL (Z.own a) F3 H):=λb o e=>by
     by_cases hbl:b∈Z.own a
     ·unfold mL at e;rw[if_pos hbl] at e;exact sm3 _ o e
     ·cases g:F3 b with
      |some o'=>have:=nQ (as:=Z.own a) (H:=H) b o' g;rw[e] at this;cases this;exact sm3 b o g
      |none=>rw[sY hbl g] at e;exact sm b o e
    have soM:jB K F2 (mL (Z.own a) F3 H) (Z.sl a') (some v):=by obtain⟨v',ev,ow3,gg⟩:=so3;refine⟨v',ev,λb hb=>⟨(ow3 b hb).1, ?_⟩,λF' H' s k=>gg F' H' s λb hb ob e=>k b hb ob<|nQ _ _ e⟩;obtain⟨_,ob,g,wr⟩:=ow3 b hb;exact⟨ob,nQ _ _ g,wr⟩
    refine⟨.non,mL (Z.own a) F3 H,ho,ha,⟨λb o g n hb hx=>un.keep b o g (sU.free n) hb hx,λb o g n hb hx=>un.slot b o g (sU.free n) hb hx,λb o g n hx=> ?_,un.there,λb xs e=>sH _ _ (nl e λz=>z) e,λb o u e=>sH _ _ (nl e λz=>z) e,λb ps e=>⟨#[],by rw[sH _ _ (nl e λz=>z) e];simp⟩⟩,λb o e=> ?_,ru, ?_⟩
    ·rw[sY (nn n)<|un.free b o g (sU.free n) hx];exact n
    ·have z:=smM b o e
     by_cases hbl:b∈Z.own a
     ·have e':F3 b=some o:=by unfold mL at e;rw[if_pos hbl] at e;exact e
      exact(hk b o e').smp z
     ·cases g:F3 b with
      |some o'=>have:=nQ (as:=Z.own a) (H:=H) b o' g;rw[e] at this;cases this;exact(hk b o g).smp z
      |none=>
       rw[sY hbl g] at e
       have n:F b=none:=by
        cases g2:F b with
        |none=>rfl
        |some o2=>rw[s2 _ _<|s1 _ _ g2] at g;cases g
       have st:=(e0.hok b o e).smp (F:=λ_=>none) z
       have:ObjOk P w (fun _=>none) s'.heap b o:=st.stay (fun b2 u hb2 gg=>by
        rcases hb2 with rfl|hb2
        ·exact keepO _ o hbl e n u gg
        ·cases hb2) (λb2 hb2=>nomatch hb2) λb2 xs hb2=>nomatch hb2
       exact this.smp z
    ·refine q F2 (mL (Z.own a) F3 H) a' pa s1 (s2.trans nQ) smM soM nd3 sH λb o hbl e n=> ?_
     have n3:=keepF b o hbl e n;refine⟨s2.free n3,λhb=> ?_⟩;obtain⟨_,_,ow3,_⟩:=so3;obtain⟨_,ob,g,_⟩:=ow3 b hb;rw[n3] at g;cases g
   |_=>exact hrr
theorem rG:∀ {sd:List Slot}{i:Nat}{z:Slot},(cQ sd).Nodup->sd[i]? =some z->(iR z).Nodup
 |[],_,_,_,e=>by simp at e
 |y::zs,0,z,h,e=>by
  have:y=z:=by simpa using e
  subst this;exact(bK.mp (show(iR y++cQ zs).Nodup from h)).1
 |y::zs,i+1,z,h,e=>rG (sd:=zs) (i:=i) (bK.mp (show(iR y++cQ zs).Nodup from h)).2.1 (by simpa using e)
structure vN(P:AD)(w:AL)(K:aB)(Z:Lent K)(mg:Str->Option BH)(base:BL)(x:Str)(k n:Nat)(C:Z.α->List D->(Z.α->Prop)->Prop):Prop where
 ex:∃ (f:BJ) (fd:AW) (ps:List Str),mg x=some (.ref f)/\eG K (.ref f)=true/\Binds K fd ps []/\FnOk P w K mg base CX0 k f fd ps (spL Z n C)
noncomputable def aBG{K:aB}(Z:Lent K)(n:Nat)(a:Z.α)(ds:List D):List Slot:=Z.sl a::(ds.map Slot.val++gS (n-(ds.length+1)) .un)
theorem aLx{P:AD}{w:AL}{Z:Lent K}{mg:Str->Option BH}{base:BL}{x qual:Str}{st:BN}{f:BJ}{fd:AW}{N ps:List Str}{k:Nat}{C:Z.α->List D->(Z.α->Prop)->Prop}(F:Fun K x qual st f fd)(S:pB N ps (bI st))
  (hm:mg x=some (.ref f)) (hb:∀ (kV doc pm:BH) (an:Option BJ) (cdv ct:BH) (us:List BH),us.length=ps.length->bindArgs (gC x qual (kU st) (iG st) (bI st) .none kV doc pm an cdv ct) ⟨us,[]⟩=pure (ps.zip us))
  (body:∀ (cdv:BH) (A:BK) (outer:List Env) (s:BI) (H:Hp) (E:XK) (B:Hp) (hB:∀b o,H b=some o→aGC o→B b=some o),Room k (A.deeper (Af qual (bI st) s.heap.objs.size f cdv))→∀a ds post,ds.length+1=ps.length→C a ds post→
   PSd (reB (nG CX0 P w K mg base N qual (bI st) f cdv A outer s H E).nox B hB) (aBG Z N.length a ds) (iG st) {nx:=λsd'=>∃a',post a'/\sd'[0]? =some (Z.sl a'),rt:=λ_=>False})
  (hw:∀ (a:Z.α) (v:V) (F H:Hp) (b:BJ) (o:HO),Z.G a v F H->b∈Z.own a->H b=some o->¬ aGC o):vN P w K Z mg base x (k+1) ps.length C:=by
 refine⟨f,fd,ps,hm,F.kp,F.binds hb,F.ok S (λvs H Q E h=>h.1) λcdv A outer s H vs Q E hr h=> ?_⟩;obtain⟨hl,v,us,F0,a,ds,post,rfl,sF,hH,sm,so,nd,rl,c,hp,q⟩:=h;have hds:ds.length+1=ps.length:=by rw[<-rl.len];exact hl
 have hB:∀b o,H b=some o->aGC o->F0 b=some o:=λb o e no=>by
  by_cases hbl:b∈Z.own a
  ·obtain⟨_,_,_,gg⟩:=so;exact absurd no<|hw a _ F0 H b o (gg F0 H (Same.refl _) λ_ _ _ e=>e) hbl e
  ·rw[<-hH b hbl];exact e
 refine⟨_,uO,aKW (B:=F0) (hb:=hB) ?_⟩;have hlen:N.length-(us.length+1)=N.length-(ds.length+1):=by rw[rl.len]
 have S0:StF K F0 F0 H (L2.start N (v::us)) (aBG Z N.length a ds):=by
  refine⟨Same.refl _,sF,sm, ?_, ?_⟩
  ·unfold L2.start aBG;show SlotsOk K F0 _ (_::_) (some v::(us.map some++gS (N.length-(us.length+1)) none));rw[hlen];exact⟨_,_,rfl,so,rO (m:=0) rl⟩
  ·unfold aBG;rw[rL,rM,cY];exact nd
 refine(body cdv A outer s _ E F0 hB hr a ds post hds c (L2.start N (v::us)) F0 _ S0).imp ?_ ?_ (λ_ _ ⟨_,_,_,_,z⟩=>z) λ_ _ ⟨_,_,_,_,z⟩=>z
 ·rintro σ' H' ⟨sd',F',S',s',a',pa,hs⟩;obtain⟨o,h1,so'⟩:=S'.slots.get hs;obtain⟨v',rfl,ow',gg⟩:=so';have e1:=Z.hv<|gg F' H' (Same.refl _) λ_ _ _ e=>e;obtain⟨v0,ev,_,g0⟩:=so;cases ev;have e0:=Z.hv<|g0 F0 H (Same.refl _) λ_ _ _ e=>e;have evv:v'=v:=by rw[e1,e0,hp a' pa]
  subst evv;refine q H' ⟨F',a',pa,S'.base,S'.sub,S'.smp,⟨v',rfl,ow',gg⟩, ?_⟩;have nd':=S'.nd;exact rG nd' hs
 ·rintro v' H' ⟨r',ro,e⟩;exact e.elim
variable {sd:List Slot}{c:Expr}{es:List Expr}{pos cp p p2:Pos}{ds:List D}{E:kE}{k n:Nat}{f x:Str}
theorem aFU{Z:Lent X.K}{C:Z.α->List D->(Z.α->Prop)->Prop}{post:Z.α->Prop}{a:Z.α}(i:Nat)(hs:sd[i]? =some (Z.sl a))(hxi:PE X (.Name x p2) (mW i))(G:vN X.prog X.w X.K Z X.mg X.base f k n C)(hr:Room k X.A)(hg:Gl X f)(ha:PAd X sd es (ds.map R.val))(hc:C a ds post)(hp:∀a',post a'->Z.ad a'=Z.ad a)(hn:ds.length+1=n)(hE:∀a',post a'->E.nx (sd.set i<|Z.sl a'))
  (hdb:(f==("__debug__":Str))=false:=by decide) (he:AF (.Name x p2::es) X.env=(false,eval (.Name x p2) X.env)::AF es X.env:=by rfl) (hpl:(Au cp<|AF es X.env).any (·.1)=false:=by rfl)
  (hsw:Ag (.Call (.Name f p) (.Name x p2::es) [] cp) none pos.line X.env=pure false:=by rfl):PSd1 X sd (.Expr (.Call (.Name f p) (.Name x p2::es) [] cp) pos) E:=.mk λσ F H S=>by
 obtain⟨fa,fd,ps,hm,hkp,bd,G⟩:=G.ex;obtain⟨o0,h1,v,h2,_⟩:=S.slots.get hs;refine(vG (aEI (FnOk.framedL G) hr hg hm hkp bd .nil aMh (iH hxi aGB he) hdb he hpl) hsw).to ⟨v,by rw[h1,h2],(ha σ F H S).imp λus H1 ⟨F1,S1,s1,q1⟩=> ?_⟩;have rl:=q1.vals;obtain⟨o1,g1,so⟩:=S1.slots.get hs
 have eo:o1=some v:=by rw[h1,h2] at g1;exact(cA.inj g1).symm
 subst eo;refine⟨by rw[cY,bU,rl.len];exact hn,S1.smp,v,us,F1,a,ds,post,by rw[cY],S1.sub,so,rG S1.nd hs,rl,hc,hp,λF' H' a' pa s2 s3 sm so' nd kp kf=> ?_⟩;have S2:=S1.le<|iO sd i;have no:∀b,b∈cQ (sd.set i .un)->b∉Z.own a:=λb hb z=>jJ S1.nd hs (show b∈iR (Z.sl a) from z) hb
 have S3:StF X.K X.B₀ F' H' σ (sd.set i .un):=⟨fun b o e=>s2 _ _ (S1.base _ _ e),s3,sm,S2.slots.mono s2 fun b hb=>by
  obtain⟨n1,ob,e,_⟩:=S2.slots.owns hb
  exact⟨(kf b ob (no b hb) e n1).1,λxs e'=>kp b xs (no b hb) e'⟩,S2.nd⟩
 have S4:=S3.setT i so' nd λb hb hb2=>by obtain⟨n1,ob,e,_⟩:=S2.slots.owns hb2;exact(kf b ob (no b hb2) e n1).2 hb
 rw[kS,mM g1] at S4;exact⟨_,F',S4,s1.trans s2,hE a' pa⟩
theorem aFl{body:List BN}(W:Nat->List Slot->Prop)(h0:∃m sd0,Le sd sd0/\W m sd0)
  (hb:∀m sdm,W m sdm->∃t:Bool,PTd X sdm c t/\(t=false->E.nx sdm)/\(t=true->PSd X sdm body {E with nx:=λsd'=>∃m' sd2,m'<m/\Le sd' sd2/\W m' sd2,ct:=λsd'=>∃m' sd2,m'<m/\Le sd' sd2/\W m' sd2,bk:=E.nx}))
  (hp:PassesOwn (AG X.prog X.w) X.A X.env X.xe:=by exact PassesOwn.never):PSd1 X sd (.While c body [] pos) E:=.mk λσ F H S=>
 (aHJ hp aJx uO).to (by
  obtain⟨m0,sd0,le0,q0⟩:=h0;refine⟨λm σ' H'=>∃sdm F',StF X.K X.B₀ F' H' σ' sdm/\Same F F'/\W m sdm,⟨m0,sd0,F,S.le le0,Same.refl _,q0⟩, ?_⟩;rintro m σ' H' ⟨sdm,F',S',s',qm⟩;obtain⟨t,ht,h1,h2⟩:=hb m sdm qm;refine(ht σ' F' H' S').imp λb H1 ⟨eb,F1,S1,s1⟩=> ?_
  subst eb;cases b with
  |false=>exact aIj ⟨sdm,F1,S1,s'.trans s1,h1 rfl⟩
  |true=>
   refine aIg ⟨λσ2 H2=>∃m' sd2 F2,m'<m/\StF X.K X.B₀ F2 H2 σ2 sd2/\Same F F2/\W m' sd2,λσ2 H2 ⟨m',sd2,F2,lt,S2,s2,w2⟩=>⟨m',lt,sd2,F2,S2,s2,w2⟩, ?_⟩;refine(h2 rfl σ' F1 H1 S1).imp ?_ ?_ ?_ ?_
   ·rintro σ4 H4 ⟨sd4,F4,S4,s4,m',sd5,lt,le,q5⟩;exact⟨m',sd5,F4,lt,S4.le le,(s'.trans s1).trans s4,q5⟩
   ·exact λv H4 q=>q
   ·rintro σ4 H4 ⟨sd4,F4,S4,s4,q⟩;exact⟨sd4,F4,S4,(s'.trans s1).trans s4,q⟩
   ·rintro σ4 H4 ⟨sd4,F4,S4,s4,m',sd5,lt,le,q5⟩
    exact⟨m',sd5,F4,lt,S4.le le,(s'.trans s1).trans s4,q5⟩)
theorem aAQ{P:AD}{w:AL}{h h':BL}{cs:List BJ}(x:HOk P w H h)(k:∀b u,b∉cs->h.get? b=some u->h'.get? b=some u)(hn:∀b∈cs,H b=none):HOk P w H h':=λa o e=>
 (x a o e).stay (fun b u hb q=>k b u (fun z=>by
  have n:=hn b z
  rcases hb with rfl|hb
  ·rw[e] at n;cases n
  ·rw[hb] at n
   cases n) q) (λ_ q=>q) λ_ _ q=>q
variable {prog:AD}{w:AL}{A:BK}{d I:BJ}{od:BM}{es:Array DictEntry}{ep:Nat}
theorem aNZ(hh:A.handled=none)(c:od.data=.dict es ep)(ne:d≠I):Walks prog w A I [I,d] [I] es.size (λi v=>∃u,es[i]? =some u/\v=u.key) (λi h=>h.IsKeyIter I d i es.size ep/\h.get? d=some od) where
 sub:=λb hb=>aW.mpr (.inl<|aN.mp hb)
 frame:=λi h h' st k=>by obtain⟨⟨o,g,q⟩,g2⟩:=st;exact⟨⟨o,k I aH o g,q⟩,k d (by simp) od g2⟩
 item:=λi s Q E hi st q=>zQ st.1 st.2 c hi λh' st' sb=>q _ h' s.toks ⟨es[i],by simp[hi],rfl⟩ ⟨st',(sb.2 d ne).trans st.2⟩ λb o hb g=>(sb.2 b λz=>hb<|by rw[z];exact cR _).trans g
 done:=λs Q E st q=>aCw hh st.1 st.2 c (aP _) λh' eb=>q h' s.toks λb o hb g=>eb b o (λz=>hb<|by rw[z];exact cR _) g
 self:=λi s Q E st q=>wpAny_pyIter_keyiter st.1 q
theorem srcD(sm:(d==An)=false)(x:od.ExactDict)(c:od.data=.dict es ep):PySem.W.KdlSrc prog w "dict" d d es.size (λi v=>∃u,es[i]? =some u/\v=u.key) (λh=>h.get? d=some od) where
 type:=λs ok=>tI ok x
 there:=λh ok=>⟨aS ok,aS ok⟩
 keep:=λh h' ok k=>k d (.inl rfl) od ok
 notList:=by decide
 notTuple:=by decide
 hint:=λA E s Q ok q=>PySem.W.kdl_hint_dict (tI ok x) q
 iter:=λA s hh ok=>⟨_,_,λE Q q=>aBZ sm ok x c q,aNZ hh c (bS<|aS ok),⟨⟨_,bG _ rfl,rfl,rfl⟩,aD _ ok⟩⟩
section
variable {prog:AD}{w:AL}{A:BK}{I:BJ}{fp wr:List BJ}{n:Nat}{P:Nat->BH->Prop}{St:Nat->BL->Prop}{J:BL->Prop}{bt:Nat->Nat->Bool}{R:Result->BI->Prop}{S:BJ}
def aOU(prog:AD)(w:AL)(A:BK)(J:BL->Prop)(P:Nat->BH->Prop)(bt:Nat->Nat->Bool):Prop:=∀i k x y (t:BI) (Q:BH->BI->Prop) (E:BH->BI->Prop),J t.heap->P i x->P k y->Q (.bool<|bt i k) t->AI (AG prog w) A (richCompare .Lt x y) Q E t
def aJA(cs:List BJ)(J:BL->Prop):Prop:=∀h h':BL,J h->(∀b o,b∉cs->h.get? b=some o->h'.get? b=some o)->J h'
noncomputable def two2(v:BH)(c:Nat):BM:={cls:=.type "list",dict:=none,data:=.seq #[v,v] c,slots:= #[]}
theorem aFf(W:Walks prog w A.in1 I fp wr n P St)(ask:aOU prog w A.in1 J P bt)(stay:aJA (S::wr) J)(nS:S∉fp):∀ (k j:Nat) (s:BI) (v0:BH) (c:Nat),n=k+(j+1)->St (j+1) s.heap->P (Ab bt j) v0->J s.heap->s.heap.get? S=some (two2 v0 c)->
  (∀v h' tk,P (Ab bt<|n-1) v->(∀b o,b∉S::wr->s.heap.get? b=some o->h'.get? b=some o)->R (.ok<|.ret v) {s with heap:=h',toks:=tk})->codeAny (AG prog w) A (.builtin "min.loop" ⟨[.ref I,.none,.ref S],[]⟩) R s:=λk=>by
 have nW:S∉wr:=λz=>nS<|W.sub S z
 have nm:(toString "min"++toString ".loop":String)="min.loop":=by decide
 have upO:∀ {h:BL}{f:BM->BM}{b:BJ}{o:BM},b∉S::wr->h.get? b=some o->(h.update S f).get? b=some o:=λ{h f b o} hb g=>by rw[cI _ _ (λz=>hb<|by rw[<-z];exact aH)];exact g
 have upF:∀ {h:BL}{f:BM->BM}{i:Nat},St i h->St i (h.update S f):=λ{h f i} st=>W.frame _ _ _ st λb hb o g=>by rw[cI _ _ (show S≠b from λz=>nS<|by rw[z];exact hb)];exact g
 have sub1:∀ {b:BJ},b∉S::wr->b∉wr:=λhb z=>hb<|aI _ z
 induction k with
 |zero=>
  intro j s v0 c en st p0 hJ hS fin;have ej:n=j+1:=by omega
  refine Ai F.entry_min_loop ?_;rw[Around.under_plainId F.plain_min_loop];refine AA (m:=seqItems?<|.ref S)<|wpAny_seqItems hS rfl ?_;refine AA (m:=tryCatch (pyNext<|.ref I) _) (wpAny_tryCatch<|W.done s _ _ (by rw[ej];exact st) λh1 tk k1=> ?_);refine AA (m:=updateSeq S λ_=> #[]) (wpAny_updateSeq (k1 S _ nW hS) rfl<|AA (wpAny_letGo<|AB ?_));exact fin v0 _ tk (by rw[ej];exact p0) λb o hb g=>upO hb<|k1 b o (sub1 hb) g
 |succ k ih=>
  intro j s v0 c en st p0 hJ hS fin;refine Ai F.entry_min_loop ?_;rw[Around.under_plainId F.plain_min_loop];refine AA (m:=seqItems?<|.ref S)<|wpAny_seqItems hS rfl ?_;refine AA (m:=tryCatch (pyNext<|.ref I) _) (wpAny_tryCatch<|W.item (j+1) s _ _ (by omega) st λv h1 tk pv st1 k1=> ?_);have hS1:=k1 S _ nW hS;have hJ1:J h1:=stay _ _ hJ λb o hb g=>k1 b o (sub1 hb) g
  refine AA (m:=tryCatch (holding [v,v]<|richCompare .Lt v v0>>=_) _) (wpAny_tryCatch<|AV (AA<|ask (j+1) (Ab bt j) v v0 ⟨h1,s.gens,s.drawn,tk,s.os⟩ _ _ hJ1 pv p0 ?_));refine AA<|AV (Aa<|AA (wpAny_letGo<|AB ?_));have ab:Ab bt (j+1)=if bt (j+1) (Ab bt j) then j+1 else Ab bt j:=rfl
  cases q:bt (j+1) (Ab bt j) with
  |true=>rw[q,if_pos rfl] at ab;simp only[if_true];refine AA<|wpAny_updateSeq hS1 rfl (AA<|wpAny_letGo ?_);rw[nm];refine AB ⟨Az F.plain_min_loop _,ih (j+1) _ v _ (by omega) (upF st1) (by rw[ab];exact pv) (stay _ _ hJ1 λb o hb g=>upO hb g) (fV _ hS1 rfl) λv' h2 tk2 p2 k2=> ?_⟩;exact fin v' h2 tk2 p2 λb o hb g=>k2 b o hb (upO hb<|k1 b o (sub1 hb) g)
  |false=>rw[q,if_neg bY] at ab;simp only[aX,if_false];refine AA<|wpAny_letGo ?_;rw[nm];refine AB ⟨Az F.plain_min_loop _,ih (j+1) _ v0 c (by omega) st1 (by rw[ab];exact p0) hJ1 hS1 λv' h2 tk2 p2 k2=> ?_⟩;exact fin v' h2 tk2 p2 λb o hb g=>k2 b o hb<|k1 b o (sub1 hb) g
theorem aDj(W:Walks prog w A.in1 I fp wr n P St)(ask:aOU prog w A.in1 J P bt)(stay:aJA (S::wr) J)(nS:S∉fp)(h0:0<n){s:BI}{c:Nat}(st:St 0 s.heap)(hJ:J s.heap)(hS:s.heap.get? S=some {cls:=.type "list",dict:=none,data:=.seq #[] c,slots:= #[]})
  (fin:∀v h' tk,P (Ab bt<|n-1) v->(∀b o,b∉S::wr->s.heap.get? b=some o->h'.get? b=some o)->R (.ok<|.ret v) {s with heap:=h',toks:=tk}):codeAny (AG prog w) A (.builtin "min.loop" ⟨[.ref I,.none,.ref S],[]⟩) R s:=by
 have nW:S∉wr:=λz=>nS<|W.sub S z
 have nm:(toString "min"++toString ".loop":String)="min.loop":=by decide
 have upO:∀ {h:BL}{f:BM->BM}{b:BJ}{o:BM},b∉S::wr->h.get? b=some o->(h.update S f).get? b=some o:=λ{h f b o} hb g=>by rw[cI _ _ (λz=>hb<|by rw[<-z];exact aH)];exact g
 have sub1:∀ {b:BJ},b∉S::wr->b∉wr:=λhb z=>hb<|aI _ z
 refine Ai F.entry_min_loop ?_;rw[Around.under_plainId F.plain_min_loop];refine AA (m:=seqItems?<|.ref S)<|wpAny_seqItems hS rfl ?_;refine AA (m:=tryCatch (pyNext<|.ref I) _) (wpAny_tryCatch<|W.item 0 s _ _ h0 st λv h1 tk pv st1 k1=> ?_);have hS1:=k1 S _ nW hS;refine AA (m:=updateSeq S λ_=> #[v,v])<|wpAny_updateSeq hS1 rfl ?_;rw[nm];refine AB ⟨Az F.plain_min_loop _,aFf W ask stay nS (n-1) 0 _ v _ (by omega) (W.frame _ _ _ st1 λb hb o g=> ?_) pv (stay _ _ hJ λb o hb g=>upO hb<|k1 b o (sub1 hb) g) (fV _ hS1 rfl) λv' h2 tk2 p2 k2=> ?_⟩
 ·rw[cI _ _ (show S≠b from λz=>nS<|by rw[z];exact hb)];exact g
 ·exact fin v' h2 tk2 p2 λb o hb g=>k2 b o hb (upO hb<|k1 b o (sub1 hb) g)
theorem aFo{E:BH->BI->Prop}{s:BI}{x:BH}{Q:BH->BI->Prop}
  (h:AI (AG prog w) A.in1 (pyIter x) (fun it t=>∃ (I:BJ) (fp wr:List BJ) (n:Nat) (P:Nat→BH→Prop) (St:Nat→BL→Prop) (J:BL→Prop) (bt:Nat→Nat→Bool),it= .ref I∧Walks prog w A.in1 I fp wr n P St∧St 0 t.heap∧(∀b∈fp,b<t.heap.objs.size)∧0<n∧aOU prog w A.in1 J P bt∧J t.heap∧aJA (t.heap.objs.size::wr) J∧
   ∀v h' tk,P (Ab bt (n-1)) v->(∀b o,b∉wr->t.heap.get? b=some o->h'.get? b=some o)->Q v {t with heap:=h',toks:=tk}) E s):
  AI (AG prog w) A (call (.builtin "min") [x]) Q E s:=by
 have nm:(toString "min"++toString ".loop":String)="min.loop":=by decide
 refine call_function_tree F.kind_min F.plain_min F.entry_min (F.args_min1 _) ?_;refine AA (m:=Builtin.Builtins.bindParams "min" ["key","default"] 0 ⟨[],[]⟩)<|wpAny_of_eq (a:=[none,none]) rfl (AA<|AB ?_);refine AA<|Ac h (λit t hx=> ?_) λ_ _ z=>z;obtain⟨I,fp,wr,n,P,St,J,bt,rfl,W,st,hfp,h0,ask,hJ,stay,q⟩:=hx;refine AA<|AR ?_;have nS:t.heap.objs.size∉fp:=λz=>dU _<|hfp _ z
 rw[nm];refine AB ⟨Az F.plain_min_loop _,aDj W ask stay nS h0 (W.frame _ _ _ st λb _ o g=>aD _ g) (stay _ _ hJ λb o _ g=>aD _ g) (bG _ rfl) λv h' tk pv k=> ?_⟩;refine q v h' tk pv λb o hb g=>k b o (λz=> ?_)<|aD _ g
 rcases aW.mp z with z|z
 ·exact dU _<|z▸aS g
 ·exact hb z
end
noncomputable def rkA(r:AH->Nat)(xs:Array AH)(i:Nat):Nat:=match xs[i]? with
 |some p=>r p
 |none=>0
def AscR(r:AH->Nat)(xs:Array AH)(l h:Nat):Prop:=∀i j,l<=i->i<j->j<h->rkA r xs i<rkA r xs j
theorem iX{r:AH->Nat}{xs ys:Array AH}{i j:Nat}(h:xs[i]? =ys[j]?):rkA r xs i=rkA r ys j:=by unfold rkA;rw[h]
theorem eH{r:AH->Nat}{xs:Array AH}{i:Nat}(h:i<xs.size):rkA r xs i=r xs[i]:=by unfold rkA;rw[getElem?_pos xs i h]
structure mD(prog:AD)(w:AL)(A:BK)(E:BH->BI->Prop)(s:BI)(κ:Ao)(r:AH->Nat)(a₀:Array AH):Prop where
 ask:∀ {x y:AH}{st:BO}{Q:Option Bool->BO->Prop},x∈a₀.toList->y∈a₀.toList->kindOf st=κ->Q (some (decide<|r x<r y)) st->wpS (AG prog w) A E s (lt' x y) Q st
 nd:(a₀.toList.map r).Nodup
structure SB(κ:Ao)(a₀:Array AH)(st:BO):Prop where
 perm:(AK st).Perm a₀
 kind:kindOf st=κ
 failed:failedOf st=none
structure Stp(κ:Ao)(a₀:Array AH)(lo hi:Nat)(st st':BO):Prop where
 sb:SB κ a₀ st'
 pend:AC st'=AC st
 keep:∀k,k<lo\/hi<=k->(AK st')[k]? =(AK st)[k]?
variable {E:BH->BI->Prop}{κ:Ao}{r:AH->Nat}{a₀:Array AH}{st st':BO}
theorem SB.size(h:SB κ a₀ st):(AK st).size=a₀.size:=h.perm.size_eq
theorem SB.mem(h:SB κ a₀ st){i:Nat}(hi:i<(AK st).size):(AK st)[i]∈a₀.toList:=(iE.mp h.perm).mem_iff.mp<|by simp
theorem aPN{xs:Array AH}(nd:(xs.toList.map r).Nodup){i j:Nat}(hi:i<xs.size)(hj:j<xs.size)(hij:i≠j):rkA r xs i≠rkA r xs j:=λe=>by
 rw[eH hi,eH hj] at e;have e2:(xs.toList.map r)[i]'(by simpa using hi)=(xs.toList.map r)[j]'(by simpa using hj):=by simpa using e
 exact hij<|(jS nd).mp e2
theorem SB.nd(h:SB κ a₀ st)(K:mD prog w A E s κ r a₀):((AK st).toList.map r).Nodup:=(((iE.mp h.perm).map r).nodup_iff).mpr K.nd
theorem SB.ne(h:SB κ a₀ st)(K:mD prog w A E s κ r a₀){i j:Nat}(hi:i<a₀.size)(hj:j<a₀.size)(hij:i≠j):rkA r (AK st) i≠rkA r (AK st) j:=
 aPN (h.nd K) (by rw[h.size];exact hi) (by rw[h.size];exact hj) hij
theorem Stp.refl(h:SB κ a₀ st)(lo hi:Nat):Stp κ a₀ lo hi st st:=⟨h,rfl,λ_ _=>rfl⟩
theorem Stp.trans{lo hi:Nat}{st'':BO}(h:Stp κ a₀ lo hi st st')(h2:Stp κ a₀ lo hi st' st''):Stp κ a₀ lo hi st st'':=⟨h2.sb,h2.pend.trans h.pend,λk hk=>(h2.keep k hk).trans<|h.keep k hk⟩
theorem SB.setArr(h:SB κ a₀ st){xs:Array AH}(hp:xs.Perm (AK st)):SB κ a₀ (setArr st xs):=⟨hp.trans h.perm,h.kind,h.failed⟩
theorem eU{xs:Array AH}{i:Nat}{Q:AH->BO->Prop}(hi:i<xs.size)(h:Q xs[i] st):wpS (AG prog w) A E s (elem' xs i) Q st:=by rw[elem'_eq,getElem?_pos xs i hi];exact AJ h
theorem rQ{i j:Nat}{Q:Option Bool->BO->Prop}(K:mD prog w A E s κ r a₀)(hB:SB κ a₀ st)(hi:i<a₀.size)(hj:j<a₀.size)
  (h:Q (some (decide<|rkA r (AK st) i<rkA r (AK st) j)) st):wpS (AG prog w) A E s (ltAt' i j) Q st:=by
 have hi':i<(AK st).size:=by rw[hB.size];exact hi
 have hj':j<(AK st).size:=by rw[hB.size];exact hj
 rw[ltAt'_eq];refine AE<|wpS_get ?_;show wpS _ _ _ _ (do let x <-elem' (AK st) i;let y <-elem' (AK st) j;lt' x y) Q st;refine AE (eU hi'<|AE (eU hj'<|K.ask (hB.mem hi') (hB.mem hj') hB.kind ?_));rw[eH hi',eH hj'] at h;exact h
theorem zS{xs:Array AH}{i j:Nat}(hj:j<=xs.size)(k:Nat):
  rkA r (mirror xs i j<|(j-i) / 2) k=if i<=k/\k<j then rkA r xs (i+j-1-k) else rkA r xs k:=by
 have e:=getElem?_mirror_all (i:=i) hj k
 by_cases h1:i<=k/\k<j
 ·rw[if_pos h1] at e ⊢;exact iX e
 ·rw[if_neg h1] at e ⊢;exact iX e
theorem zY{xs:Array AH}{src d:Nat}(hs:src<xs.size)(hd:d<=src)(k:Nat):
  rkA r (bubble xs src d) k=if k=src-d then rkA r xs src else if src-d<k/\k<=src then rkA r xs (k-1) else rkA r xs k:=by
 have e:=getElem?_bubble hs d hd k
 by_cases h1:k=src-d
 ·rw[if_pos h1] at e ⊢;exact iX e
 ·rw[if_neg h1] at e ⊢
  by_cases h2:src-d<k/\k<=src
  ·rw[if_pos h2] at e ⊢;exact iX e
  ·rw[if_neg h2] at e ⊢;exact iX e
theorem AscR.snoc{xs:Array AH}{l h:Nat}(a:AscR r xs l h)(lt:l<h)(q:rkA r xs (h-1)<rkA r xs h):AscR r xs l (h+1):=λi j hi hij hj=>by
 by_cases e:j=h
 ·subst e
  by_cases e2:i=j-1
  ·rw[e2];exact q
  ·exact pY (a i (j-1) hi (by omega)<|by omega) q
 ·exact a i j hi hij<|by omega
theorem aEp{lo a nrem:Nat}{Q:Option (Option Nat)×Nat->BO->Prop}(K:mD prog w A E s κ r a₀)(hB:SB κ a₀ st)(ha:1<=a)(han:a<=nrem)(hn:lo+nrem<=a₀.size)(hs:AscR r (AK st) lo (lo+a))
  (h:∀m,a<=m->m<=nrem->AscR r (AK st) lo (lo+m)->(m<nrem->rkA r (AK st) (lo+m)<rkA r (AK st) (lo+m-1))->Q (none,m) st):
  wpS (AG prog w) A E s (forIn [a:nrem] ((none,a):Option (Option Nat) × Nat) fun _ __s=>do
   let __x <-ltAt' (lo+__s.snd) (lo+__s.snd-1)
   match __x with
   |some smaller=>if smaller=true then pure (ForInStep.done (none,__s.snd)) else pure (ForInStep.yield (none,__s.snd+1))
   |_=>pure (ForInStep.done (some none,__s.snd))) Q st:=by
 refine AU (I:=λx c st'=>st'=st/\c=(none,x)/\AscR r (AK st) lo (lo+x)) ?_ ?_ ⟨rfl,rfl,hs⟩
 ·rintro x c st' hx hxn ⟨rfl,rfl,hs'⟩;dsimp only;refine AE (rQ K hB (by omega) (by omega) ?_)
  by_cases q:rkA r (AK st') (lo+x)<rkA r (AK st') (lo+x-1)
  ·simp only[q,decide_true,if_true];exact AJ<|h x hx (by omega) hs' λ_=>q
  ·simp only[q,decide_false,aX,if_false];refine AJ ⟨rfl,rfl, ?_⟩;have ne:=hB.ne K (i:=lo+x) (j:=lo+x-1) (by omega) (by omega) (by omega);exact hs'.snoc (by omega)<|by omega
 ·rintro c st' ⟨rfl,rfl,hs'⟩;rw[show max a nrem=nrem by omega] at hs' ⊢;exact h nrem han (aP _) hs' λz=>absurd z<|dU _
def DscR(r:AH->Nat)(xs:Array AH)(l h:Nat):Prop:=∀i j,l<=i->i<j->j<h->rkA r xs j<rkA r xs i
theorem DscR.snoc{xs:Array AH}{l h:Nat}(a:DscR r xs l h)(lt:l<h)(q:rkA r xs h<rkA r xs (h-1)):DscR r xs l (h+1):=λi j hi hij hj=>by
 by_cases e:j=h
 ·subst e
  by_cases e2:i=j-1
  ·rw[e2];exact q
  ·exact pY q (a i (j-1) hi (by omega)<|by omega)
 ·exact a i j hi hij<|by omega
theorem aCF{lo nrem:Nat}{Q:Option Nat->BO->Prop}(K:mD prog w A E s κ r a₀)(hB:SB κ a₀ st)(h1:1<=nrem)(hn:lo+nrem<=a₀.size)
  (h:∀m st',1<=m->m<=nrem->Stp κ a₀ lo (lo+nrem) st st'->AscR r (AK st') lo (lo+m)->Q (some m) st'):wpS (AG prog w) A E s (countRun' lo nrem) Q st:=by
 rw[countRun'_eq];refine AE<|aEp K hB (aP 1) h1 hn (λi j h1 h2 h3=>by omega) λm hm1 hm2 hs hq=> ?_;dsimp only
 by_cases e:m=nrem
 ·rw[if_pos<|by simpa using e];exact AJ<|h m st hm1 hm2 (.refl hB _ _) hs
 ·rw[if_neg<|by simpa using e]
  by_cases m1:m>1
  ·rw[if_pos m1];refine AE<|rQ K hB (by omega) (by omega) ?_;rw[decide_eq_true (hs lo (lo+m-1) (aP _) (by omega)<|by omega)];dsimp only;rw[if_pos rfl];exact AJ<|h m st hm1 hm2 (.refl hB _ _) hs
  ·rw[if_neg m1];have em:m=1:=by omega
   subst em;have hq:=hq (by omega);refine AE (wpS_lift<|wpAny_rule ⟨rfl, ?_⟩);refine AE<|AY (AU (I:=λx c st'=>st'=st/\c=(none,x,0)/\DscR r (AK st) lo (lo+x)) (Q:=λc st'=>st'=st/\∃m,c=(none,m,0)/\2<=m/\m<=nrem/\DscR r (AK st) lo (lo+m)) ?step ?fin ⟨rfl,rfl, ?init⟩) ?post
   case init=>
    intro i j h1 h2 h3;have e1:i=lo:=by omega
    have e2:j=lo+1:=by omega
    subst e1 e2;exact hq
   case step=>
    rintro x c st' hx hxn ⟨rfl,rfl,hs'⟩;dsimp only;refine AE<|rQ K hB (by omega) (by omega) ?_
    by_cases q:rkA r (AK st') (lo+x)<rkA r (AK st') (lo+x-1)
    ·simp only[q,decide_true,if_true];rw[if_neg<|by omega];exact AJ ⟨rfl,rfl,hs'.snoc (by omega) q⟩
    ·simp only[q,decide_false,aX,if_false];refine AE<|rQ K hB (by omega) (by omega) ?_;have ne:=hB.ne K (i:=lo+x) (j:=lo+x-1) (by omega) (by omega) (by omega);rw[decide_eq_true (show rkA r (AK st') (lo+x-1)<rkA r (AK st') (lo+x) by omega)];dsimp only;rw[if_pos rfl];exact AJ ⟨rfl,x,rfl,hx,by omega,hs'⟩
   case fin=>rintro c st' ⟨rfl,rfl,hs'⟩;rw[show max (1+1) nrem=nrem by omega] at hs' ⊢;exact⟨rfl,nrem,rfl,by omega,aP _,hs'⟩
   case post=>
    rintro c st' ⟨rfl,m,rfl,m2,mn,hd⟩;dsimp only;rw[if_neg<|by omega,reverseSlice'_eq];refine AE<|Ax ?_;have hz:lo+m<=(AK st').size:=by rw[hB.size];omega
    have S:Stp κ a₀ lo (lo+nrem) st' (setArr st' (mirror (AK st') lo (lo+m)<|(lo+m-lo) / 2)):=by refine⟨hB.setArr<|mirror_perm _ _ _ _,rfl,λk hk=> ?_⟩;show(mirror (AK st') lo (lo+m)<|(lo+m-lo) / 2)[k]? =_;rw[getElem?_mirror_all hz,if_neg<|by omega]
    refine AE<|aEp K S.sb (by omega) mn hn (λi j h1 h2 h3=> ?_) λm' a1 a2 a3 _=> ?_
    ·show rkA r (mirror (AK st') lo (lo+m)<|(lo+m-lo) / 2) i<rkA r (mirror (AK st') lo (lo+m)<|(lo+m-lo) / 2) j;rw[zS hz,zS hz,if_pos<|by omega,if_pos<|by omega];exact hd _ _ (by omega) (by omega)<|by omega
    ·exact AJ<|h m' _ (by omega) a2 S a3
theorem aHg{lo ok:Nat}{Q:Bool->BO->Prop}(K:mD prog w A E s κ r a₀)(hB:SB κ a₀ st)(hn:lo+n<=a₀.size)(hok:ok<=n)(hs:AscR r (AK st) lo (lo+ok))
  (h:∀st',Stp κ a₀ lo (lo+n) st st'->AscR r (AK st') lo (lo+n)->Q true st'):wpS (AG prog w) A E s (binarySort' lo n ok) Q st:=by
 rw[binarySort'_eq]
 refine AE (AY (AU (I:=fun k c st'=>c=(none,())∧Stp κ a₀ lo (lo+n) st st'∧AscR r (AK st') lo (lo+min k n))
  (Q:=λc st'=>c=(none,())/\Stp κ a₀ lo (lo+n) st st'/\AscR r (AK st') lo (lo+n)) ?step ?fin ?init) ?post)
 case post=>rintro c st' ⟨rfl,S,hs'⟩;exact AJ<|h st' S hs'
 case init=>refine⟨rfl,.refl hB _ _,λi j hi hij hj=> ?_⟩;exact hs i j hi hij<|by omega
 case fin=>
  rintro c st' ⟨hc,S,hs'⟩;refine⟨hc,S, ?_⟩
  rwa[show min (max (max ok 1) n) n=n by omega] at hs'
 case step=>
  rintro k c st' hak hkn ⟨rfl,S,hs'⟩;rw[show min k n=k by omega] at hs';have hB':=S.sb;have hk:lo+k<a₀.size:=by omega
  refine AE (AY (AU (I:=fun x c st''=>st''=st'∧∃l r',c=(none,l,r')∧l≤r'∧r'≤k∧r' - l≤k - x∧
    (∀i,i<l->rkA r (AK st') (lo+i)<rkA r (AK st') (lo+k))/\(∀i,r'<=i->i<k->rkA r (AK st') (lo+k)<rkA r (AK st') (lo+i)))
   (Q:=fun c st''=>st''=st'∧∃l r',c=(none,l,r')∧l≤k∧
    (∀i,i<l->rkA r (AK st') (lo+i)<rkA r (AK st') (lo+k))/\(∀i,l<=i->i<k->rkA r (AK st') (lo+k)<rkA r (AK st') (lo+i))) ?istep ?ifin ?iinit) ?ipost)
  case iinit=>exact⟨rfl,0,k,rfl,by omega,by omega,by omega,λi hi=>by omega,λi h1 h2=>by omega⟩
  case ifin=>
   rintro c st'' ⟨rfl,l,r',rfl,hlr,hrk,hm,hlo,hhi⟩;have:l=r':=by omega
   subst this;exact⟨rfl,l,l,rfl,hrk,hlo,hhi⟩
  case istep=>
   rintro x c st'' _ hxk ⟨rfl,l,r',rfl,hlr,hrk,hm,hlo,hhi⟩;dsimp only
   by_cases hge:l>=r'
   ·rw[if_pos hge];have:l=r':=by omega
    subst this;exact AJ ⟨rfl,l,l,rfl,hrk,hlo,hhi⟩
   ·rw[if_neg hge];refine AE (rQ K hB' hk (by omega) ?_)
    by_cases hless:rkA r (AK st'') (lo+k)<rkA r (AK st'') (lo+(l+r') / 2)
    ·simp only[hless,decide_true,if_true];refine AJ ⟨rfl,l,(l+r') / 2,rfl,by omega,by omega,by omega,hlo,λi h1 h2=> ?_⟩
     by_cases e:i=(l+r') / 2
     ·rw[e];exact hless
     ·exact pY hless (hs' _ _ (by omega) (by omega)<|by omega)
    ·simp only[hless,decide_false,aX,if_false];have ne:=hB'.ne K (i:=lo+k) (j:=lo+(l+r') / 2) hk (by omega) (by omega);have hl:rkA r (AK st'') (lo+(l+r') / 2)<rkA r (AK st'') (lo+k):=by omega
     refine AJ ⟨rfl,(l+r') / 2+1,r',rfl,by omega,by omega,by omega,λi h1=> ?_,hhi⟩
     by_cases e:i=(l+r') / 2
     ·rw[e];exact hl
     ·exact pY (hs' _ _ (by omega) (by omega)<|by omega) hl
  case ipost=>
   rintro c st'' ⟨rfl,l,r',rfl,hlk,hlo,hhi⟩;show wpS _ _ _ _ (do moveDown' (lo+k) (lo+l);pure (ForInStep.yield (none,()))) _ _;rw[moveDown'_eq];have hks:lo+k<(AK st'').size:=by rw[hB'.size];exact hk
   have ed:lo+k-(lo+l)=k-l:=by omega
   rw[ed];refine AE (Ax<|AJ ⟨rfl,S.trans ⟨hB'.setArr<|bubble_perm _ _ _,rfl,λi hi=> ?_⟩, ?_⟩)
   ·show(bubble (AK st'') (lo+k)<|k-l)[i]? =_;rw[getElem?_bubble hks _<|by omega,if_neg<|by omega,if_neg<|by omega]
   rw[show min (k+1) n=k+1 by omega];intro i j hi hij hj;show rkA r (bubble (AK st'') (lo+k)<|k-l) i<rkA r (bubble (AK st'') (lo+k)<|k-l) j;rw[zY hks<|by omega,zY hks<|by omega,show lo+k-(k-l)=lo+l by omega]
   have hlo':∀i,lo<=i->i<lo+l->rkA r (AK st'') i<rkA r (AK st'') (lo+k):=λi a b=>by
    have:=hlo (i-lo)<|by omega
    rwa[show lo+(i-lo)=i by omega] at this
   have hhi':∀i,lo+l<=i->i<lo+k->rkA r (AK st'') (lo+k)<rkA r (AK st'') i:=λi a b=>by
    have:=hhi (i-lo) (by omega)<|by omega
    rwa[show lo+(i-lo)=i by omega] at this
   repeat' split
   all_goals first
    |(exfalso;omega)
    |exact hlo' _ (by omega) (by omega)
    |exact hhi' _ (by omega) (by omega)
    |exact hs' _ _ (by omega) (by omega) (by omega)
noncomputable def nA:Bool->AH->Array AH->Nat->Nat->Nat->StateT BO Sem (Option Nat):=sortPriv%PySem.Builtin.gallop
noncomputable def bey(left:Bool)(key:AH)(arr:Array AH)(base i:Nat):StateT BO Sem (Option Bool):=do
  let x <-elem' arr (base+i)
  if left then lt' x key else return (<-lt' key x).map (!·)
theorem aCV(left:Bool)(key:AH)(arr:Array AH)(base n hint:Nat):nA left key arr base n hint=(do
 let mut lastofs:=0
 let mut ofs:=1
 let mut lo:=0
 let mut hi:=0
 let some right <-bey left key arr base hint|return none
 if right then
  let maxofs:=n-hint
  for _ in[0:n] do
   if ofs>=maxofs then break
   let some more <-bey left key arr base (hint+ofs)|return none
   if !more then break
   lastofs:=ofs
   ofs:=2*ofs+1
  lo:=hint+lastofs+1
  hi:=hint+min ofs maxofs
 else
  let maxofs:=hint+1
  for _ in[0:n] do
   if ofs>=maxofs then break
   let some found <-bey left key arr base (hint-ofs)|return none
   if found then break
   lastofs:=ofs
   ofs:=2*ofs+1
  lo:=hint+1-min ofs maxofs
  hi:=hint-lastofs
 for _ in[0:n] do
  if lo>=hi then break
  let m:=lo+(hi-lo) / 2
  let some more <-bey left key arr base m|return none
  if more then lo:=m+1 else hi:=m
 return some hi):=rfl
theorem rW{left:Bool}{key:AH}{xs:Array AH}{base i:Nat}{Q:Option Bool->BO->Prop}(K:mD prog w A E s κ r a₀)(hk:kindOf st=κ)(mx:∀x∈xs.toList,x∈a₀.toList)(mk:key∈a₀.toList)(hi:base+i<xs.size)(ne:rkA r xs (base+i)≠r key)
  (h:Q (some (decide<|rkA r xs (base+i)<r key)) st):wpS (AG prog w) A E s (bey left key xs base i) Q st:=by
 unfold bey;refine AE<|eU hi ?_;have m1:xs[base+i]∈a₀.toList:=mx _ (by simp);rw[eH hi] at h ne;cases left with
 |true=>exact K.ask m1 mk hk h
 |false=>
  refine AE (K.ask mk m1 hk<|AJ ?_)
  have e:(!decide (r key<r xs[base+i]))=decide (r xs[base+i]<r key):=by
   by_cases q:r xs[base+i]<r key
   ·rw[decide_eq_true q,decide_eq_false<|by omega];rfl
   ·rw[decide_eq_false q,decide_eq_true<|by omega];rfl
  show Q (some<|!decide (r key<r xs[base+i])) st;rw[e];exact h
theorem AscR.le{xs:Array AH}{base:Nat}(a:AscR r xs base (base+n)){i j:Nat}(hij:i<=j)(hj:j<n):rkA r xs (base+i)<=rkA r xs (base+j):=by
 by_cases e:i=j
 ·rw[e];exact aP _
 ·exact dG (a _ _ (by omega) (by omega)<|by omega)
theorem qI{left:Bool}{key:AH}{xs:Array AH}{base hint:Nat}{Q:Option Nat->BO->Prop}(K:mD prog w A E s κ r a₀)(hk:kindOf st=κ)(mx:∀x∈xs.toList,x∈a₀.toList)(mk:key∈a₀.toList)(hx:base+n<=xs.size)(hh:hint<n)
  (asc:AscR r xs base (base+n)) (ne:∀i,i<n->rkA r xs (base+i)≠r key)
  (h:∀k,k<=n->(∀i,i<k->rkA r xs (base+i)<r key)->(∀i,k<=i->i<n->r key<rkA r xs (base+i))->Q (some k) st):wpS (AG prog w) A E s (nA left key xs base n hint) Q st:=by
 rw[aCV];refine AE<|rW K hk mx mk (by omega) (ne _ hh) ?_
 by_cases q:rkA r xs (base+hint)<r key
 ·simp only[q,decide_true,if_true]
  refine AE (AY (AU (I:=fun x c st'=>st'=st∧∃last ofs,c=(none,last,ofs)∧last<ofs∧x+1≤ofs∧hint+last<n∧rkA r xs (base+(hint+last))<r key)
   (Q:=λc st'=>st'=st/\∃last ofs,c=(none,last,ofs)/\last<ofs/\hint+last<n/\rkA r xs (base+(hint+last))<r key/\(n-hint<=ofs\/(hint+ofs<n/\r key<rkA r xs (base+(hint+ofs))))) ?step ?fin ⟨rfl,0,1,rfl,by omega,by omega,hh,q⟩) ?post)
  case fin=>rintro c st' ⟨rfl,last,ofs,rfl,a,b,c,d⟩;exact⟨rfl,last,ofs,rfl,a,c,d,.inl<|by omega⟩
  case step=>
   rintro x c st' _ hxn ⟨rfl,last,ofs,rfl,a,b,c,d⟩;dsimp only
   by_cases z:ofs>=n-hint
   ·rw[if_pos z];exact AJ ⟨rfl,last,ofs,rfl,a,c,d,.inl z⟩
   ·rw[if_neg z];refine AE (rW K hk mx mk (by omega) (ne _<|by omega) ?_)
    by_cases y:rkA r xs (base+(hint+ofs))<r key
    ·simp only[y,decide_true,jG,aX,if_false];exact AJ ⟨rfl,ofs,2*ofs+1,rfl,by omega,by omega,by omega,y⟩
    ·simp only[y,decide_false,qZ,if_true];have y':=ne (hint+ofs) (by omega);exact AJ ⟨rfl,last,ofs,rfl,a,c,d,.inr ⟨by omega,by omega⟩⟩
  case post=>
   rintro c st' ⟨rfl,last,ofs,rfl,a,b,c,d⟩;dsimp only;have l1:hint+last+1<=hint+min ofs (n-hint):=by omega
   have l2:hint+min ofs (n-hint)<=n:=by omega
   have hl:∀i,i<hint+last+1->rkA r xs (base+i)<r key:=λi hi=>cB (asc.le (by omega) b) c
   have hg:∀i,hint+min ofs (n-hint)<=i->i<n->r key<rkA r xs (base+i):=λi h1 h2=>by
    rcases d with d|⟨d1,d2⟩
    ·omega
    ·exact bE d2<|asc.le (by omega) h2
   refine AE (AY (AU (I:=fun x c st''=>st''=st'∧∃lo hi,c=(none,lo,hi)∧lo≤hi∧hi≤n∧hi - lo≤n - x∧(∀i,i<lo→rkA r xs (base+i)<r key)∧(∀i,hi≤i→i<n→r key<rkA r xs (base+i)))
    (Q:=λc st''=>st''=st'/\∃k,c=(none,k,k)/\k<=n/\(∀i,i<k->rkA r xs (base+i)<r key)/\(∀i,k<=i->i<n->r key<rkA r xs (base+i))) ?step ?fin ⟨rfl,_,_,rfl,l1,l2,by omega,hl,hg⟩) ?post)
   case post=>rintro c st'' ⟨rfl,k,rfl,a,b,c⟩;exact AJ<|h k a b c
   case fin=>
    rintro c st'' ⟨rfl,lo,hi,rfl,a,b,c,d,e⟩;have:lo=hi:=by omega
    subst this;exact⟨rfl,lo,rfl,b,d,e⟩
   case step=>
    rintro x c st'' _ hxn ⟨rfl,lo,hi,rfl,a,b,c,d,e⟩;dsimp only
    by_cases q:lo>=hi
    ·rw[if_pos q];have:lo=hi:=by omega
     subst this;exact AJ ⟨rfl,lo,rfl,b,d,e⟩
    ·rw[if_neg q];refine AE (rW K hk mx mk (by omega) (ne _<|by omega) ?_)
     by_cases z:rkA r xs (base+(lo+(hi-lo) / 2))<r key
     ·simp only[z,decide_true,if_true];refine AJ ⟨rfl,lo+(hi-lo) / 2+1,hi,rfl,by omega,b,by omega,λi hi'=> ?_,e⟩;exact cB (asc.le (by omega)<|by omega) z
     ·simp only[z,decide_false,aX,if_false];have z':=ne (lo+(hi-lo) / 2) (by omega);refine AJ ⟨rfl,lo,lo+(hi-lo) / 2,rfl,by omega,by omega,by omega,d,λi h1 h2=> ?_⟩;exact bE (by omega)<|asc.le h1 h2
 ·simp only[q,decide_false,aX,if_false];have q':=ne hint hh
  refine AE (AY (AU (I:=fun x c st'=>st'=st∧∃last ofs,c=(none,last,ofs)∧last<ofs∧x+1≤ofs∧last≤hint∧r key<rkA r xs (base+(hint - last)))
   (Q:=λc st'=>st'=st/\∃last ofs,c=(none,last,ofs)/\last<ofs/\last<=hint/\r key<rkA r xs (base+(hint-last))/\(hint+1<=ofs\/(ofs<=hint/\rkA r xs (base+(hint-ofs))<r key))) ?step ?fin ⟨rfl,0,1,rfl,by omega,by omega,by omega,by rw[Nat.sub_zero];omega⟩) ?post)
  case fin=>rintro c st' ⟨rfl,last,ofs,rfl,a,b,c,d⟩;exact⟨rfl,last,ofs,rfl,a,c,d,.inl<|by omega⟩
  case step=>
   rintro x c st' _ hxn ⟨rfl,last,ofs,rfl,a,b,c,d⟩;dsimp only
   by_cases z:ofs>=hint+1
   ·rw[if_pos z];exact AJ ⟨rfl,last,ofs,rfl,a,c,d,.inl z⟩
   ·rw[if_neg z];refine AE (rW K hk mx mk (by omega) (ne _<|by omega) ?_)
    by_cases y:rkA r xs (base+(hint-ofs))<r key
    ·simp only[y,decide_true,if_true];exact AJ ⟨rfl,last,ofs,rfl,a,c,d,.inr ⟨by omega,y⟩⟩
    ·simp only[y,decide_false,aX,if_false];have y':=ne (hint-ofs) (by omega);exact AJ ⟨rfl,ofs,2*ofs+1,rfl,by omega,by omega,by omega,by omega⟩
  case post=>
   rintro c st' ⟨rfl,last,ofs,rfl,a,b,c,d⟩;dsimp only;have l1:hint+1-min ofs (hint+1)<=hint-last:=by omega
   have l2:hint-last<=n:=by omega
   have hl:∀i,i<hint+1-min ofs (hint+1)->rkA r xs (base+i)<r key:=λi hi=>by
    rcases d with d|⟨d1,d2⟩
    ·omega
    ·exact cB (asc.le (by omega)<|by omega) d2
   have hg:∀i,hint-last<=i->i<n->r key<rkA r xs (base+i):=λi h1 h2=>bE c<|asc.le (by omega) h2
   refine AE (AY (AU (I:=fun x c st''=>st''=st'∧∃lo hi,c=(none,lo,hi)∧lo≤hi∧hi≤n∧hi - lo≤n - x∧(∀i,i<lo→rkA r xs (base+i)<r key)∧(∀i,hi≤i→i<n→r key<rkA r xs (base+i)))
    (Q:=λc st''=>st''=st'/\∃k,c=(none,k,k)/\k<=n/\(∀i,i<k->rkA r xs (base+i)<r key)/\(∀i,k<=i->i<n->r key<rkA r xs (base+i))) ?step ?fin ⟨rfl,_,_,rfl,l1,l2,by omega,hl,hg⟩) ?post)
   case post=>rintro c st'' ⟨rfl,k,rfl,a,b,c⟩;exact AJ<|h k a b c
   case fin=>
    rintro c st'' ⟨rfl,lo,hi,rfl,a,b,c,d,e⟩;have:lo=hi:=by omega
    subst this;exact⟨rfl,lo,rfl,b,d,e⟩
   case step=>
    rintro x c st'' _ hxn ⟨rfl,lo,hi,rfl,a,b,c,d,e⟩;dsimp only
    by_cases q:lo>=hi
    ·rw[if_pos q];have:lo=hi:=by omega
     subst this;exact AJ ⟨rfl,lo,rfl,b,d,e⟩
    ·rw[if_neg q];refine AE (rW K hk mx mk (by omega) (ne _<|by omega) ?_)
     by_cases z:rkA r xs (base+(lo+(hi-lo) / 2))<r key
     ·simp only[z,decide_true,if_true];refine AJ ⟨rfl,lo+(hi-lo) / 2+1,hi,rfl,by omega,b,by omega,λi hi'=> ?_,e⟩;exact cB (asc.le (by omega)<|by omega) z
     ·simp only[z,decide_false,aX,if_false];have z':=ne (lo+(hi-lo) / 2) (by omega);refine AJ ⟨rfl,lo,lo+(hi-lo) / 2,rfl,by omega,by omega,by omega,d,λi h1 h2=> ?_⟩;exact bE (by omega)<|asc.le h1 h2
structure MS(r:AH->Nat)(a b:Array AH)(out:List AH)(ia ib:Nat):Prop where
 ha:ia<=a.size
 hb:ib<=b.size
 perm:out.Perm (a.toList.take ia++b.toList.take ib)
 asc:(out.map r).Pairwise (·<·)
 la:∀x∈out,∀i,ia<=i->i<a.size->r x<rkA r a i
 lb:∀x∈out,∀i,ib<=i->i<b.size->r x<rkA r b i
def MD(r:AH->Nat)(a b:Array AH)(out:List AH):Prop:=out.Perm (a.toList++b.toList)/\(out.map r).Pairwise (·<·)
variable {a b:Array AH}{out:List AH}{ia ib:Nat}
theorem MS.swap(m:MS r a b out ia ib):MS r b a out ib ia:=⟨m.hb,m.ha,m.perm.trans jH,m.asc,m.lb,m.la⟩
theorem MS.pushA(m:MS r a b out ia ib)(h:ia<a.size)(asa:AscR r a 0 a.size)(hb:∀j,ib<=j->j<b.size->rkA r a ia<rkA r b j):MS r a b (out++[a[ia]]) (ia+1) ib:=by
 refine⟨h,m.hb, ?_, ?_,λx hx i h1 h2=> ?_,λx hx i h1 h2=> ?_⟩
 ·have e:a.toList.take (ia+1)=a.toList.take ia++[a[ia]]:=by rw[fO];simp[h]
  rw[e,eA];refine(m.perm.append_right _).trans ?_;rw[eA];exact List.Perm.append_left _ jH
 ·rw[aJ,eX];refine⟨m.asc,kZ _ _,λx hx y hy=> ?_⟩;obtain⟨z,hz,rfl⟩:=aE.mp hx;have:y=r a[ia]:=by simpa using hy
  rw[this,<-eH (r:=r) h];exact m.la z hz ia (aP _) h
 ·rcases aU.mp hx with hx|hx
  ·exact m.la x hx i (by omega) h2
  ·rw[aN.mp hx,<-eH (r:=r) h];exact asa ia i (bW _) (by omega) h2
 ·rcases aU.mp hx with hx|hx
  ·exact m.lb x hx i h1 h2
  ·rw[aN.mp hx,<-eH (r:=r) h];exact hb i h1 h2
theorem MS.pushB(m:MS r a b out ia ib)(h:ib<b.size)(asb:AscR r b 0 b.size)(hb:∀j,ia<=j->j<a.size->rkA r b ib<rkA r a j):MS r a b (out++[b[ib]]) ia (ib+1):=(m.swap.pushA h asb hb).swap
theorem aHE(h:ia+k<a.size):(a.extract ia<|ia+(k+1)).toList=(a.extract ia<|ia+k).toList++[a[ia+k]]:=by simp only[eD,dD];rw[show ia+(k+1)-ia=k+1 by omega,show ia+k-ia=k by omega,fO];simp[h]
theorem aHq(i:Nat):(a.extract i<|i+0).toList=[]:=by simp[eD,dD]
theorem MS.extA(asa:AscR r a 0 a.size)(m:MS r a b out ia ib):∀k,ia+k<=a.size->(∀i,i<k->∀j,ib<=j->j<b.size->rkA r a (ia+i)<rkA r b j)->MS r a b (out++(a.extract ia<|ia+k).toList) (ia+k) ib
 |0,_,_=>by rw[aHq,cY];exact m
 |k+1,h,hb=>by
  have ih:=MS.extA asa m k (by omega) λi hi=>hb i<|by omega
  rw[aHE<|by omega,<-eA];exact ih.pushA (by omega) asa (hb k<|by omega)
theorem MS.extB(asb:AscR r b 0 b.size)(m:MS r a b out ia ib)(k:Nat)(h:ib+k<=b.size)(hb:∀i,i<k->∀j,ia<=j->j<a.size->rkA r b (ib+i)<rkA r a j):MS r a b (out++(b.extract ib<|ib+k).toList) ia (ib+k):=(m.swap.extA asb k h hb).swap
theorem MS.done(m:MS r a b out a.size b.size):MD r a b out:=by refine⟨?_,m.asc⟩;have:=m.perm;rw[fG<|by simp,fG<|by simp] at this;exact this
theorem MS.finA(m:MS r a b out ia b.size)(asa:AscR r a 0 a.size):MD r a b (out++(a.extract ia a.size).toList):=by
 have h:=m.ha;have:=m.extA asa (a.size-ia) (by omega) λi hi j h1 h2=>by omega
 rw[show ia+(a.size-ia)=a.size by omega] at this;exact this.done
theorem MS.finL(m:MS r a b out ia ib)(asa:AscR r a 0 a.size)(asb:AscR r b 0 b.size)(h1:ia+1=a.size)(hab:∀j,j<b.size->rkA r b j<rkA r a (a.size-1)):MD r a b (out++(b.extract ib b.size).toList++(a.extract ia a.size).toList):=by
 have h:=m.hb
 have:=m.extB asb (b.size-ib) (by omega) λi hi j h1 h2=>by
  have e:j=a.size-1:=by omega
  rw[e];exact hab _<|by omega
 rw[show ib+(b.size-ib)=b.size by omega] at this;exact this.finA asa
theorem aKK(i:Nat)(h:a.size<=i):(a.extract i a.size).toList=[]:=by
 rw[eD,dD];have:a.size-i=0:=by omega
 rw[this];rfl
noncomputable def aQE(st:BO)(g:Nat):BO:=SortSt.mk' (kindOf st) (AK st) (AC st) g<|failedOf st
noncomputable def jU:Nat->StateT BO Sem Unit:=sortPriv%PySem.Builtin.setMinGallop
theorem jN(g:Nat):jU g=modify λs=>aQE s g:=rfl
noncomputable def wF:Array AH->Array AH->StateT BO Sem (Array AH):=sortPriv%PySem.Builtin.mergeLo
structure SameG(st st':BO):Prop where
 kind:kindOf st'=kindOf st
 arr:AK st'=AK st
 pend:AC st'=AC st
 failed:failedOf st'=failedOf st
theorem SameG.refl(st:BO):SameG st st:=⟨rfl,rfl,rfl,rfl⟩
theorem SameG.set(h:SameG st st')(g:Nat):SameG st (aQE st' g):=⟨h.kind,h.arr,h.pend,h.failed⟩
structure MPre(r:AH->Nat)(a₀ a b:Array AH):Prop where
 a1:1<=a.size
 b1:1<=b.size
 asa:AscR r a 0 a.size
 asb:AscR r b 0 b.size
 ma:∀x∈a.toList,x∈a₀.toList
 mb:∀x∈b.toList,x∈a₀.toList
 ne:∀i j,i<a.size->j<b.size->rkA r a i≠rkA r b j
 first:rkA r b 0<rkA r a 0
 last:rkA r b (b.size-1)<rkA r a (a.size-1)
theorem AscR.le0{xs:Array AH}{i j:Nat}(a:AscR r xs 0 n)(hij:i<=j)(hj:j<n):rkA r xs i<=rkA r xs j:=by
 by_cases e:i=j
 ·rw[e];exact aP _
 ·exact dG (a _ _ (by omega) (by omega)<|by omega)
noncomputable abbrev SM:=StateT BO Sem
noncomputable abbrev ML1:=Option (Array AH)×Array AH×Nat×Nat×Nat×Nat
noncomputable abbrev ML2:=Option (Array AH)×Array AH×Nat×Nat×Nat×Nat×Nat
noncomputable abbrev ML0:=Option (Array AH)×Array AH×Nat×Nat×Nat
noncomputable def dnA(a b out:Array AH)(ia ib:Nat):Array AH:=out++a.extract ia a.size++b.extract ib b.size
noncomputable def lsA(a b out:Array AH)(ia ib:Nat):Array AH:=out++b.extract ib b.size++a.extract ia a.size
noncomputable def lo1(a b:Array AH)(mg:Nat)(c:ML1):SM (ForInStep ML1):=do
 let y <-elem' b c.2.2.2.1
 let x <-elem' a c.2.2.1
 let q <-lt' y x
 match q with
 |some bw=>
  if bw=true then do
   let y <-elem' b c.2.2.2.1
   if(c.2.2.2.1+1==b.size)=true then pure (.done (some (dnA a b (c.2.1.push y) c.2.2.1<|c.2.2.2.1+1),c.2.1.push y,c.2.2.1,c.2.2.2.1+1,0,c.2.2.2.2.2+1))
   else if c.2.2.2.2.2+1>=mg then pure (.done (none,c.2.1.push y,c.2.2.1,c.2.2.2.1+1,0,c.2.2.2.2.2+1))
   else pure (.yield (none,c.2.1.push y,c.2.2.1,c.2.2.2.1+1,0,c.2.2.2.2.2+1))
  else do
   let x <-elem' a c.2.2.1
   if(c.2.2.1+1+1==a.size)=true then pure (.done (some<|lsA a b (c.2.1.push x) (c.2.2.1+1) c.2.2.2.1,c.2.1.push x,c.2.2.1+1,c.2.2.2.1,c.2.2.2.2.1+1,0))
   else if c.2.2.2.2.1+1>=mg then pure (.done (none,c.2.1.push x,c.2.2.1+1,c.2.2.2.1,c.2.2.2.2.1+1,0))
   else pure (.yield (none,c.2.1.push x,c.2.2.1+1,c.2.2.2.1,c.2.2.2.2.1+1,0))
 |_=>pure<|.done (some<|dnA a b c.2.1 c.2.2.1 c.2.2.2.1,c.2.1,c.2.2.1,c.2.2.2.1,c.2.2.2.2.1,c.2.2.2.2.2)
noncomputable def aOu(a b out:Array AH)(ia ib mg k k1:Nat):SM (ForInStep ML2):=do
 let x <-elem' a ia
 if(ia+1+1==a.size)=true then pure (.done (some<|lsA a b (out.push x) (ia+1) ib,out.push x,ia+1,ib,mg,k,k1))
 else if(decide (k<7)&&decide (k1<7))=true then pure (.done (none,out.push x,ia+1,ib,mg,k,k1))
 else pure (.yield (none,out.push x,ia+1,ib,mg,k,k1))
noncomputable def aOw(a b out:Array AH)(ia ib mg k bc:Nat):SM (ForInStep ML2):=do
 let y <-elem' b ib
 if(ib+1==b.size)=true then pure (.done (some (dnA a b (out.push y) ia<|ib+1),out.push y,ia,ib+1,mg,k,bc))
 else do
  let x <-elem' a ia
  let q <-nA true x b (ib+1) (b.size-(ib+1)) 0
  match q with
  |some k1=>
   if k1>0 then
    if(ib+1+k1==b.size)=true then pure (.done (some (dnA a b (out.push y++b.extract (ib+1) (ib+1+k1)) ia<|ib+1+k1),out.push y++b.extract (ib+1) (ib+1+k1),ia,ib+1+k1,mg,k,k1))
    else aOu a b (out.push y++b.extract (ib+1) (ib+1+k1)) ia (ib+1+k1) mg k k1
   else aOu a b (out.push y) ia (ib+1) mg k k1
  |_=>pure<|.done (some (dnA a b (out.push y) ia<|ib+1),out.push y,ia,ib+1,mg,k,bc)
noncomputable def aLQ(a b out:Array AH)(ia ib mg ac bc:Nat):SM (ForInStep ML2):=do
 jU mg
 let y <-elem' b ib
 let q <-nA false y a ia (a.size-ia) 0
 match q with
 |some k=>
  if k>0 then
   if(ia+k+1==a.size)=true then pure (.done (some<|lsA a b (out++a.extract ia (ia+k)) (ia+k) ib,out++a.extract ia (ia+k),ia+k,ib,mg,k,bc))
   else if(ia+k==a.size)=true then pure (.done (some<|dnA a b (out++a.extract ia (ia+k)) (ia+k) ib,out++a.extract ia (ia+k),ia+k,ib,mg,k,bc))
   else aOw a b (out++a.extract ia (ia+k)) (ia+k) ib mg k bc
  else aOw a b out ia ib mg k bc
 |_=>pure<|.done (some<|dnA a b out ia ib,out,ia,ib,mg,ac,bc)
noncomputable def lo2(a b:Array AH)(c:ML2):SM (ForInStep ML2):=
 if c.2.2.2.2.1>1 then aLQ a b c.2.1 c.2.2.1 c.2.2.2.1 (c.2.2.2.2.1-1) c.2.2.2.2.2.1 c.2.2.2.2.2.2
 else aLQ a b c.2.1 c.2.2.1 c.2.2.2.1 c.2.2.2.2.1 c.2.2.2.2.2.1 c.2.2.2.2.2.2
noncomputable def lo0(a b:Array AH)(c:ML0):SM (ForInStep ML0):=do
 let d <-forIn [:a.size+b.size] ((none,c.2.1,c.2.2.1,c.2.2.2.1,0,0):ML1) λ_ d=>lo1 a b c.2.2.2.2 d
 match d.1 with
 |some r=>pure<|.done (some r,d.2.1,d.2.2.1,d.2.2.2.1,c.2.2.2.2)
 |none=>do
  liftM (rule "list.sort.gallop")
  let e <-forIn [:a.size+b.size] ((none,d.2.1,d.2.2.1,d.2.2.2.1,c.2.2.2.2+1,d.2.2.2.2.1,d.2.2.2.2.2):ML2) λ_ e=>lo2 a b e
  match e.1 with
  |some r=>pure<|.done (some r,e.2.1,e.2.2.1,e.2.2.2.1,e.2.2.2.2.1)
  |none=>do
   jU (e.2.2.2.2.1+1)
   pure (.yield (none,e.2.1,e.2.2.1,e.2.2.2.1,e.2.2.2.2.1+1))
noncomputable def loM(a b:Array AH):SM (Array AH):=do
 liftM (rule "list.sort.merge-lo")
 let y <-elem' b 0
 if(1==b.size)=true then pure (dnA a b #[y] 0 1)
 else if(0+1==a.size)=true then pure (lsA a b #[y] 0 1)
 else do
  let g <-get
  let c <-forIn [:a.size+b.size] ((none, #[y],0,1,gallopOf g):ML0) λ_ c=>lo0 a b c
  match c.1 with
  |some r=>pure r
  |none=>liftM (unsupported "internal:list.sort.merge-bound":Sem (Array AH))
theorem aNu(a b:Array AH):wF a b=loM a b:=by kernel_rfl
def FIN(r:AH->Nat)(a b:Array AH)(o:Option (Array AH)):Prop:=∃res,o=some res/\MD r a b res.toList
def OKm(r:AH->Nat)(a b:Array AH)(N:Nat)(o:Option (Array AH))(out:Array AH)(ia ib:Nat):Prop:=o=none/\MS r a b out.toList ia ib/\ia+1<a.size/\ib<b.size/\N<=ia+ib
theorem OKm.mono{N N':Nat}{o:Option (Array AH)}{out:Array AH}(h:OKm r a b N o out ia ib)(le:N'<=N):OKm r a b N' o out ia ib:=⟨h.1,h.2.1,h.2.2.1,h.2.2.2.1,cJ le h.2.2.2.2⟩
section
variable {prog:AD}{w:AL}{A:BK}{E:BH->BI->Prop}{s:BI}{κ:Ao}{r:AH->Nat}{a₀ a b out:Array AH}{st st0:BO}{ia ib:Nat}
theorem MPre.last'(M:MPre r a₀ a b):∀j,j<b.size->rkA r b j<rkA r a (a.size-1):=λj hj=>cB (M.asb.le0 (by omega)<|by omega) M.last
theorem aBJ(M:MPre r a₀ a b)(m:MS r a b out.toList ia ib)(h:ib=b.size):FIN r a b (some<|dnA a b out ia ib):=by subst h;refine⟨_,rfl, ?_⟩;have:=m.finA M.asa;unfold dnA;rw[dH,dH,aKK _<|aP _,cY];exact this
theorem aBy(M:MPre r a₀ a b)(m:MS r a b out.toList ia ib)(h:ia+1=a.size):FIN r a b (some<|lsA a b out ia ib):=by refine⟨_,rfl, ?_⟩;have:=m.finL M.asa M.asb h M.last';unfold lsA;rw[dH,dH];exact this
theorem MS.pushA'(M:MPre r a₀ a b)(m:MS r a b out.toList ia ib)(h:ia<a.size)(hb:∀j,ib<=j->j<b.size->rkA r a ia<rkA r b j):MS r a b (out.push a[ia]).toList (ia+1) ib:=by rw[jI];exact m.pushA h M.asa hb
theorem MS.pushB'(M:MPre r a₀ a b)(m:MS r a b out.toList ia ib)(h:ib<b.size)(hb:∀j,ia<=j->j<a.size->rkA r b ib<rkA r a j):MS r a b (out.push b[ib]).toList ia (ib+1):=by rw[jI];exact m.pushB h M.asb hb
theorem MS.extA'(M:MPre r a₀ a b)(m:MS r a b out.toList ia ib){k:Nat}(h:ia+k<=a.size)(hb:∀i,i<k->∀j,ib<=j->j<b.size->rkA r a (ia+i)<rkA r b j):MS r a b (out++a.extract ia (ia+k)).toList (ia+k) ib:=by rw[dH];exact m.extA M.asa k h hb
theorem MS.extB'(M:MPre r a₀ a b)(m:MS r a b out.toList ia ib){k:Nat}(h:ib+k<=b.size)(hb:∀i,i<k->∀j,ia<=j->j<a.size->rkA r b (ib+i)<rkA r a j):MS r a b (out++b.extract ib (ib+k)).toList ia (ib+k):=by rw[dH];exact m.extB M.asb k h hb
def P2(r:AH->Nat)(a b:Array AH)(st0:BO)(N:Nat):ForInStep ML2->BO->Prop:=λq st'=>SameG st0 st'/\match q with
 |.done c=>FIN r a b c.1\/OKm r a b N c.1 c.2.1 c.2.2.1 c.2.2.2.1
 |.yield c=>OKm r a b N c.1 c.2.1 c.2.2.1 c.2.2.2.1
theorem aEE{N mg k k1:Nat}(M:MPre r a₀ a b)(S:SameG st0 st)(m:MS r a b out.toList ia ib)(h1:ia+1<a.size)(h2:ib<b.size)(hN:N<=ia+1+ib)(hb:∀j,ib<=j->j<b.size->rkA r a ia<rkA r b j):wpS (AG prog w) A E s (aOu a b out ia ib mg k k1) (P2 r a b st0 N) st:=by
 unfold aOu;refine AE<|eU (by omega) ?_;have m2:=m.pushA' M (by omega) hb
 by_cases e:ia+1+1=a.size
 ·rw[if_pos<|by simpa using e];exact AJ ⟨S,.inl<|aBy M m2 e⟩
 ·rw[if_neg<|by simpa using e]
  split
  ·exact AJ ⟨S,.inr ⟨rfl,m2,by show ia+1+1<_;omega,h2,hN⟩⟩
  ·exact AJ ⟨S,rfl,m2,by show ia+1+1<_;omega,h2,hN⟩
theorem aEv{N mg k bc:Nat}(K:mD prog w A E s κ r a₀)(hk:kindOf st0=κ)(M:MPre r a₀ a b)(S:SameG st0 st)(m:MS r a b out.toList ia ib)(h1:ia+1<a.size)(h2:ib<b.size)(hN:N<=ia+1+ib)(hb:∀j,ia<=j->j<a.size->rkA r b ib<rkA r a j):wpS (AG prog w) A E s (aOw a b out ia ib mg k bc) (P2 r a b st0 N) st:=by
 unfold aOw;refine AE<|eU (by omega) ?_;have m2:=m.pushB' M h2 hb
 by_cases e:ib+1=b.size
 ·rw[if_pos<|by simpa using e];exact AJ ⟨S,.inl<|aBJ M m2 e⟩
 ·rw[if_neg<|by simpa using e];have h1':ia<a.size:=by omega
  refine AE<|eU h1' (AE<|qI K (S.kind.trans hk) M.mb (M.ma _<|by simp) (by omega) (by omega) (λi j h1 h2 h3=>M.asb i j (by omega) h2<|by omega) (λi hi e=>M.ne ia (ib+1+i) h1' (by omega)<|by rw[e,eH h1']) λk1 c1 c2 c3=> ?_);dsimp only;rw[<-eH (r:=r) h1'] at c2 c3;have m3:=m2.extB' M (k:=k1) (by omega) λi hi j j1 j2=>bE (c2 i hi)<|M.asa.le0 j1 j2
  have c3':∀j,ib+1+k1<=j->j<b.size->rkA r a ia<rkA r b j:=λj j1 j2=>by
   have:=c3 (j-(ib+1)) (by omega)<|by omega
   rwa[show ib+1+(j-(ib+1))=j by omega] at this
  by_cases z:k1>0
  ·rw[if_pos z]
   by_cases y:ib+1+k1=b.size
   ·rw[if_pos<|by simpa using y];exact AJ ⟨S,.inl<|aBJ M m3 y⟩
   ·rw[if_neg<|by simpa using y];exact aEE M S m3 h1 (by omega) (by omega) c3'
  ·rw[if_neg z];have z0:k1=0:=by omega
   subst z0;exact aEE M S m2 h1 (by omega) (by omega) c3'
theorem aLv{N mg ac bc:Nat}(K:mD prog w A E s κ r a₀)(hk:kindOf st0=κ)(M:MPre r a₀ a b)(S:SameG st0 st)(m:MS r a b out.toList ia ib)(h1:ia+1<a.size)(h2:ib<b.size)(hN:N<=ia+1+ib):wpS (AG prog w) A E s (aLQ a b out ia ib mg ac bc) (P2 r a b st0 N) st:=by
 unfold aLQ;rw[jN];refine AE<|Ax ?_;have S:=S.set mg;refine AE<|eU h2 (AE<|qI K (S.kind.trans hk) M.ma (M.mb _<|by simp) (by omega) (by omega) (λi j h1 h2 h3=>M.asa i j (by omega) h2<|by omega) (λi hi e=>M.ne (ia+i) ib (by omega) h2<|by rw[e,eH h2]) λk c1 c2 c3=> ?_);dsimp only;rw[<-eH (r:=r) h2] at c2 c3;have m3:=m.extA' M (k:=k) (by omega) λi hi j j1 j2=>bE (c2 i hi)<|M.asb.le0 j1 j2
 have c3':∀j,ia+k<=j->j<a.size->rkA r b ib<rkA r a j:=λj j1 j2=>by
  have:=c3 (j-ia) (by omega)<|by omega
  rwa[show ia+(j-ia)=j by omega] at this
 have kl:ia+k<a.size:=by
  by_cases q:ia+k<a.size
  ·exact q
  ·have:=c2 (a.size-1-ia) (by omega);rw[show ia+(a.size-1-ia)=a.size-1 by omega] at this;have:=M.last' ib h2;omega
 by_cases z:k>0
 ·rw[if_pos z]
  by_cases y:ia+k+1=a.size
  ·rw[if_pos<|by simpa using y];exact AJ ⟨S,.inl<|aBy M m3 y⟩
  ·rw[if_neg (by simpa using y),if_neg<|by simp;omega];exact aEv K hk M S m3 (by omega) h2 (by omega) c3'
 ·rw[if_neg z];have z0:k=0:=by omega
  subst z0;exact aEv K hk M S m (by omega) h2 (by omega) c3'
def P1(r:AH->Nat)(a b:Array AH)(st:BO)(N:Nat):ForInStep ML1->BO->Prop:=λq st'=>st'=st/\match q with
 |.done c=>FIN r a b c.1\/OKm r a b N c.1 c.2.1 c.2.2.1 c.2.2.2.1
 |.yield c=>OKm r a b N c.1 c.2.1 c.2.2.1 c.2.2.2.1
theorem aNU{N mg:Nat}{c:ML1}(K:mD prog w A E s κ r a₀)(hk:kindOf st=κ)(M:MPre r a₀ a b)(h:OKm r a b N c.1 c.2.1 c.2.2.1 c.2.2.2.1):wpS (AG prog w) A E s (lo1 a b mg c) (P1 r a b st<|N+1) st:=by
 obtain⟨o,out,ia,ib,ac,bc⟩:=c;obtain⟨h0,m,h1,h2,hN⟩:=h;dsimp only at h0 m h1 h2 hN;unfold lo1;dsimp only;have h1':ia<a.size:=by omega
 refine AE<|eU h2 (AE<|eU h1' (AE<|K.ask (M.mb _<|by simp) (M.ma _<|by simp) hk ?_));dsimp only
 by_cases q:r b[ib]<r a[ia]
 ·rw[if_pos<|by simpa using q];refine AE<|eU h2 ?_;have q':rkA r b ib<rkA r a ia:=by rw[eH h2,eH h1'];exact q
  have m2:=m.pushB' M h2 λj j1 j2=>bE q'<|M.asa.le0 j1 j2
  by_cases e:ib+1=b.size
  ·rw[if_pos<|by simpa using e];exact AJ ⟨rfl,.inl<|aBJ M m2 e⟩
  ·rw[if_neg<|by simpa using e]
   split
   ·exact AJ ⟨rfl,.inr ⟨rfl,m2,h1,by show ib+1<_;omega,by show _<=ia+(ib+1);omega⟩⟩
   ·exact AJ ⟨rfl,rfl,m2,h1,by show ib+1<_;omega,by show _<=ia+(ib+1);omega⟩
 ·rw[if_neg<|by simpa using q];refine AE (eU h1' ?_)
  have q':rkA r a ia<rkA r b ib:=by have:=M.ne ia ib h1' h2;rw[eH h1',eH h2] at this ⊢;omega
  have m2:=m.pushA' M h1' λj j1 j2=>bE q'<|M.asb.le0 j1 j2
  by_cases e:ia+1+1=a.size
  ·rw[if_pos<|by simpa using e];exact AJ ⟨rfl,.inl<|aBy M m2 e⟩
  ·rw[if_neg<|by simpa using e]
   split
   ·exact AJ ⟨rfl,.inr ⟨rfl,m2,by show ia+1+1<_;omega,h2,by show _<=ia+1+ib;omega⟩⟩
   ·exact AJ ⟨rfl,rfl,m2,by show ia+1+1<_;omega,h2,by show _<=ia+1+ib;omega⟩
def P0(r:AH->Nat)(a b:Array AH)(st0:BO)(N:Nat):ForInStep ML0->BO->Prop:=λq st'=>SameG st0 st'/\match q with
 |.done c=>FIN r a b c.1
 |.yield c=>OKm r a b N c.1 c.2.1 c.2.2.1 c.2.2.2.1
theorem aNQ{N:Nat}{c:ML0}(K:mD prog w A E s κ r a₀)(hk:kindOf st0=κ)(M:MPre r a₀ a b)(S:SameG st0 st)(h:OKm r a b N c.1 c.2.1 c.2.2.1 c.2.2.2.1):wpS (AG prog w) A E s (lo0 a b c) (P0 r a b st0<|N+1) st:=by
 obtain⟨o,out,ia,ib,mg⟩:=c;obtain⟨h0,m,h1,h2,hN⟩:=h;dsimp only at h0 m h1 h2 hN;unfold lo0;dsimp only;refine AE<|AY (AU (I:=λx d st'=>st'=st/\OKm r a b (N+x) d.1 d.2.1 d.2.2.1 d.2.2.2.1) (Q:=λd st'=>st'=st/\(FIN r a b d.1\/OKm r a b (N+1) d.1 d.2.1 d.2.2.1 d.2.2.2.1)) ?step ?fin ⟨rfl,rfl,m,h1,h2,hN⟩) ?post
 case step=>
  rintro x d st' _ hx ⟨rfl,hd⟩;refine AY (aNU K (S.kind.trans hk) M hd) λq st'' hq=> ?_
  obtain⟨rfl,hq⟩:=hq;cases q with
  |done d=>exact⟨rfl,hq.imp id λz=>z.mono<|by omega⟩
  |yield d=>exact⟨rfl,hq⟩
 case fin=>rintro d st' ⟨rfl,_,_,h3,h4,h5⟩;omega
 case post=>
  rintro d st' ⟨rfl,hd⟩;obtain⟨o1,out,ia,ib,ac,bc⟩:=d
  rcases hd with⟨res,e,hres⟩|⟨e,m,h1,h2,hN⟩
  ·dsimp only at e;subst e;exact AJ ⟨S,res,rfl,hres⟩
  ·dsimp only at e m h1 h2 hN;subst e;dsimp only;refine AE (wpS_lift<|wpAny_rule ⟨rfl, ?_⟩);refine AE (AY (AU (I:=λx d st'=>SameG st0 st'/\OKm r a b (N+1+x) d.1 d.2.1 d.2.2.1 d.2.2.2.1) (Q:=λd st'=>SameG st0 st'/\(FIN r a b d.1\/OKm r a b (N+1) d.1 d.2.1 d.2.2.1 d.2.2.2.1)) ?step2 ?fin2 ⟨S,rfl,m,h1,h2,hN⟩) ?post2)
   case step2=>
    rintro x ⟨o2,out,ia,ib,mg,ac,bc⟩ st' _ hx ⟨S,_,m,h1,h2,hN⟩;dsimp only at m h1 h2 hN;have key:∀mg,wpS (AG prog w) A E s (aLQ a b out ia ib mg ac bc) (P2 r a b st0<|N+1+(x+1)) st':=λmg=>aLv K hk M S m h1 h2<|by omega
    unfold lo2;dsimp only
    split<;>
    ·refine AY (key _) λq st'' hq=> ?_
     obtain⟨S',hq⟩:=hq;cases q with
     |done d=>exact⟨S',hq.imp id λz=>z.mono<|by omega⟩
     |yield d=>exact⟨S',hq⟩
   case fin2=>rintro d st' ⟨_,_,_,h3,h4,h5⟩;omega
   case post2=>
    rintro⟨o2,out,ia,ib,mg,ac,bc⟩ st' ⟨S,hd⟩
    rcases hd with⟨res,e,hres⟩|⟨e,m,h1,h2,hN⟩
    ·dsimp only at e;subst e;exact AJ ⟨S,res,rfl,hres⟩
    ·dsimp only at e m h1 h2 hN;subst e;dsimp only;rw[jN];exact AE (Ax<|AJ ⟨S.set _,rfl,m,h1,h2,hN⟩)
theorem aBm{Q:Array AH->BO->Prop}(K:mD prog w A E s κ r a₀)(hk:kindOf st=κ)(M:MPre r a₀ a b)
  (h:∀out st',MD r a b out.toList->SameG st st'->Q out st'):wpS (AG prog w) A E s (wF a b) Q st:=by
 rw[aNu];unfold loM;refine AE (wpS_lift<|wpAny_rule ⟨rfl, ?_⟩);have b1:=M.b1;have a1:=M.a1;refine AE<|eU (by omega) ?_;have m0:MS r a b (#[]:Array AH).toList 0 0:=⟨by omega,by omega,by simp,by simp,λx hx=>by simp at hx,λx hx=>by simp at hx⟩;have m:MS r a b (#[b[0]]:Array AH).toList 0 1:=m0.pushB' M (by omega) λj j1 j2=>bE M.first<|M.asa.le0 j1 j2
 by_cases e:1=b.size
 ·rw[if_pos<|by simpa using e];obtain⟨res,e2,hr⟩:=aBJ M m e;cases e2;exact AJ (h _ _ hr<|.refl _)
 ·rw[if_neg<|by simpa using e]
  by_cases e1:0+1=a.size
  ·rw[if_pos<|by simpa using e1];obtain⟨res,e2,hr⟩:=aBy M m e1;cases e2;exact AJ (h _ _ hr<|.refl _)
  ·rw[if_neg<|by simpa using e1];refine AE (wpS_get (AE<|AY (AU (I:=λx d st'=>SameG st st'/\OKm r a b (x+1) d.1 d.2.1 d.2.2.1 d.2.2.2.1) (Q:=λd st'=>SameG st st'/\FIN r a b d.1) ?step ?fin ⟨.refl _,rfl,m,by show 0+1<_;omega,by show 1<_;omega,aP _⟩) ?post))
   case step=>
    rintro x d st' _ hx ⟨S,hd⟩;refine AY (aNQ K hk M S hd) λq st'' hq=> ?_
    obtain⟨S',hq⟩:=hq;cases q with
    |done d=>exact⟨S',hq⟩
    |yield d=>exact⟨S',hq⟩
   case fin=>rintro d st' ⟨_,_,_,h3,h4,h5⟩;omega
   case post=>rintro d st' ⟨S,res,e,hr⟩;rw[e];exact AJ<|h _ _ hr S
end
structure HS(r:AH->Nat)(a b:Array AH)(out:List AH)(na nb:Nat):Prop where
 ha:na<=a.size
 hb:nb<=b.size
 perm:out.Perm (a.toList.drop na++b.toList.drop nb)
 dsc:(out.map r).Pairwise (λx y=>y<x)
 la:∀x∈out,∀i,i<na->rkA r a i<r x
 lb:∀x∈out,∀i,i<nb->rkA r b i<r x
variable {na nb:Nat}
theorem HS.swap(m:HS r a b out na nb):HS r b a out nb na:=⟨m.hb,m.ha,m.perm.trans jH,m.dsc,m.lb,m.la⟩
theorem HS.pushA(m:HS r a b out (na+1) nb)(asa:AscR r a 0 a.size)(hb:∀j,j<nb->rkA r b j<rkA r a na):HS r a b (out++[a[na]'m.ha]) na nb:=by
 have h:na<a.size:=m.ha;refine⟨dG h,m.hb, ?_, ?_,λx hx i h1=> ?_,λx hx i h1=> ?_⟩
 ·have e:a.toList.drop na=a[na]::a.toList.drop (na+1):=by rw[dJ<|by simpa using h];simp
  rw[e,List.cons_append];exact(jH).trans<|List.Perm.cons _ m.perm
 ·rw[aJ,eX];refine⟨m.dsc,kZ _ _,λx hx y hy=> ?_⟩;obtain⟨z,hz,rfl⟩:=aE.mp hx;have:y=r a[na]:=by simpa using hy
  rw[this,<-eH (r:=r) h];exact m.la z hz na<|jW _
 ·rcases aU.mp hx with hx|hx
  ·exact m.la x hx i<|by omega
  ·rw[aN.mp hx,<-eH (r:=r) h];exact asa i na (bW _) h1 h
 ·rcases aU.mp hx with hx|hx
  ·exact m.lb x hx i h1
  ·rw[aN.mp hx,<-eH (r:=r) h];exact hb i h1
theorem aHu(h:k+1<=na)(h2:na<=a.size):(a.extract (na-(k+1)) na).toList.reverse=(a.extract (na-k) na).toList.reverse++[a[na-(k+1)]'(by omega)]:=by
 simp only[eD,dD]
 have e:a.toList.drop (na-(k+1))=a[na-(k+1)]'(by omega)::a.toList.drop (na-k):=by rw[dJ<|by simp;omega];rw[show na-(k+1)+1=na-k by omega];simp
 rw[e,show na-(na-(k+1))=(na-(na-k))+1 by omega,aGs,List.reverse_cons]
theorem HS.extA(asa:AscR r a 0 a.size)(m:HS r a b out na nb):∀k,k<=na->(∀i,na-k<=i->i<na->∀j,j<nb->rkA r b j<rkA r a i)->HS r a b (out++(a.extract (na-k) na).toList.reverse) (na-k) nb
 |0,_,_=>by
  have e:(a.extract (na-0) na).toList.reverse=[]:=by simp[eD,dD]
  rw[e,cY];exact m
 |k+1,h,hb=>by
  have ih:=HS.extA asa m k (by omega) λi h1 h2=>hb i (by omega) h2
  rw[aHu h m.ha,<-eA];have e:na-k=na-(k+1)+1:=by omega
  rw[e] at ih;have:=ih.pushA asa (hb (na-(k+1)) (aP _)<|by omega);rw[show a.extract (na-k) na=a.extract (na-(k+1)+1) na by rw[e]];exact this
theorem HS.extB(asb:AscR r b 0 b.size)(m:HS r a b out na nb)(k:Nat)(h:k<=nb)(hb:∀i,nb-k<=i->i<nb->∀j,j<na->rkA r a j<rkA r b i):HS r a b (out++(b.extract (nb-k) nb).toList.reverse) na (nb-k):=(m.swap.extA asb k h hb).swap
theorem HS.done(m:HS r a b out 0 0):MD r a b out.reverse:=by
 refine⟨(List.reverse_perm _).trans ?_, ?_⟩
 ·have:=m.perm;simpa using this
 ·rw[List.map_reverse,List.pairwise_reverse];exact m.dsc
theorem HS.finB(m:HS r a b out 0 nb)(asb:AscR r b 0 b.size):MD r a b ((b.extract 0 nb).toList++out.reverse):=by
 have:=m.extB asb nb (aP _) λi h1 h2 j hj=>by omega
 rw[qB] at this;have:=this.done
 rwa[aGu,aGk] at this
theorem HS.finL(m:HS r a b out na 1)(asa:AscR r a 0 a.size)(asb:AscR r b 0 b.size)(first:∀i,i<a.size->rkA r b 0<rkA r a i):MD r a b ((b.extract 0 1).toList++(a.extract 0 na).toList++out.reverse):=by
 have ha:=m.ha
 have:=m.extA asa na (aP _) λi h1 h2 j hj=>by
  have:j=0:=by omega
  subst this;exact first i<|by omega
 rw[qB] at this;have:=this.finB asb
 rwa[aGu,aGk,<-eA] at this
noncomputable def wD:Array AH->Array AH->StateT BO Sem (Array AH):=sortPriv%PySem.Builtin.mergeHi
noncomputable abbrev MH1:=Option (Array AH)×Nat×Nat×Array AH×Nat×Nat
noncomputable abbrev MH2:=Option (Array AH)×Nat×Nat×Array AH×Nat×Nat×Nat
noncomputable abbrev MH0:=Option (Array AH)×Nat×Nat×Array AH×Nat
noncomputable def dnH(a b out:Array AH)(na nb:Nat):Array AH:=a.extract 0 na++b.extract 0 nb++out.reverse
noncomputable def fsB(a b out:Array AH)(na nb:Nat):Array AH:=b.extract 0 nb++a.extract 0 na++out.reverse
noncomputable def hi1(a b:Array AH)(mg:Nat)(c:MH1):SM (ForInStep MH1):=do
 let y <-elem' b (c.2.2.1-1)
 let x <-elem' a (c.2.1-1)
 let q <-lt' y x
 match q with
 |some aw=>
  if aw=true then do
   let x <-elem' a (c.2.1-1)
   if(c.2.1-1==0)=true then pure (.done (some<|dnH a b (c.2.2.2.1.push x) (c.2.1-1) c.2.2.1,c.2.1-1,c.2.2.1,c.2.2.2.1.push x,c.2.2.2.2.1+1,0))
   else if c.2.2.2.2.1+1>=mg then pure (.done (none,c.2.1-1,c.2.2.1,c.2.2.2.1.push x,c.2.2.2.2.1+1,0))
   else pure (.yield (none,c.2.1-1,c.2.2.1,c.2.2.2.1.push x,c.2.2.2.2.1+1,0))
  else do
   let y <-elem' b (c.2.2.1-1)
   if(c.2.2.1-1==1)=true then pure (.done (some (fsB a b (c.2.2.2.1.push y) c.2.1<|c.2.2.1-1),c.2.1,c.2.2.1-1,c.2.2.2.1.push y,0,c.2.2.2.2.2+1))
   else if c.2.2.2.2.2+1>=mg then pure (.done (none,c.2.1,c.2.2.1-1,c.2.2.2.1.push y,0,c.2.2.2.2.2+1))
   else pure (.yield (none,c.2.1,c.2.2.1-1,c.2.2.2.1.push y,0,c.2.2.2.2.2+1))
 |_=>pure<|.done (some<|dnH a b c.2.2.2.1 c.2.1 c.2.2.1,c.2.1,c.2.2.1,c.2.2.2.1,c.2.2.2.2.1,c.2.2.2.2.2)
noncomputable def aOo(a b out:Array AH)(na nb mg k k1:Nat):SM (ForInStep MH2):=do
 let x <-elem' a (na-1)
 if(na-1==0)=true then pure (.done (some<|dnH a b (out.push x) (na-1) nb,na-1,nb,out.push x,mg,k,k1))
 else if(decide (k<7)&&decide (k1<7))=true then pure (.done (none,na-1,nb,out.push x,mg,k,k1))
 else pure (.yield (none,na-1,nb,out.push x,mg,k,k1))
noncomputable def aOp(a b out:Array AH)(na nb mg k bc:Nat):SM (ForInStep MH2):=do
 let y <-elem' b (nb-1)
 if(nb-1==1)=true then pure (.done (some (fsB a b (out.push y) na<|nb-1),na,nb-1,out.push y,mg,k,bc))
 else do
  let x <-elem' a (na-1)
  let q <-nA true x b 0 (nb-1) (nb-1-1)
  match q with
  |some at_=>
   if nb-1-at_>0 then
    if(at_==1)=true then pure (.done (some<|fsB a b (out.push y++(b.extract at_<|nb-1).reverse) na at_,na,at_,out.push y++(b.extract at_<|nb-1).reverse,mg,k,nb-1-at_))
    else if(at_==0)=true then pure (.done (some<|dnH a b (out.push y++(b.extract at_<|nb-1).reverse) na at_,na,at_,out.push y++(b.extract at_<|nb-1).reverse,mg,k,nb-1-at_))
    else aOo a b (out.push y++(b.extract at_<|nb-1).reverse) na at_ mg k (nb-1-at_)
   else aOo a b (out.push y) na (nb-1) mg k (nb-1-at_)
  |_=>pure<|.done (some (dnH a b (out.push y) na<|nb-1),na,nb-1,out.push y,mg,k,bc)
noncomputable def aLR(a b out:Array AH)(na nb mg ac bc:Nat):SM (ForInStep MH2):=do
 jU mg
 let y <-elem' b (nb-1)
 let q <-nA false y a 0 na (na-1)
 match q with
 |some at_=>
  if na-at_>0 then
   if(at_==0)=true then pure (.done (some<|dnH a b (out++(a.extract at_ na).reverse) at_ nb,at_,nb,out++(a.extract at_ na).reverse,mg,na-at_,bc))
   else aOp a b (out++(a.extract at_ na).reverse) at_ nb mg (na-at_) bc
  else aOp a b out na nb mg (na-at_) bc
 |_=>pure<|.done (some<|dnH a b out na nb,na,nb,out,mg,ac,bc)
noncomputable def hi2(a b:Array AH)(c:MH2):SM (ForInStep MH2):=
 if c.2.2.2.2.1>1 then aLR a b c.2.2.2.1 c.2.1 c.2.2.1 (c.2.2.2.2.1-1) c.2.2.2.2.2.1 c.2.2.2.2.2.2
 else aLR a b c.2.2.2.1 c.2.1 c.2.2.1 c.2.2.2.2.1 c.2.2.2.2.2.1 c.2.2.2.2.2.2
noncomputable def hi0(a b:Array AH)(c:MH0):SM (ForInStep MH0):=do
 let d <-forIn [:a.size+b.size] ((none,c.2.1,c.2.2.1,c.2.2.2.1,0,0):MH1) λ_ d=>hi1 a b c.2.2.2.2 d
 match d.1 with
 |some r=>pure<|.done (some r,d.2.1,d.2.2.1,d.2.2.2.1,c.2.2.2.2)
 |none=>do
  liftM (rule "list.sort.gallop")
  let e <-forIn [:a.size+b.size] ((none,d.2.1,d.2.2.1,d.2.2.2.1,c.2.2.2.2+1,d.2.2.2.2.1,d.2.2.2.2.2):MH2) λ_ e=>hi2 a b e
  match e.1 with
  |some r=>pure<|.done (some r,e.2.1,e.2.2.1,e.2.2.2.1,e.2.2.2.2.1)
  |none=>do
   jU (e.2.2.2.2.1+1)
   pure (.yield (none,e.2.1,e.2.2.1,e.2.2.2.1,e.2.2.2.2.1+1))
noncomputable def hiM(a b:Array AH):SM (Array AH):=do
 liftM (rule "list.sort.merge-hi")
 let x <-elem' a (a.size-1)
 if(a.size-1==0)=true then pure (dnH a b #[x] (a.size-1) b.size)
 else if(b.size==1)=true then pure (fsB a b #[x] (a.size-1) b.size)
 else do
  let g <-get
  let c <-forIn [:a.size+b.size] ((none,a.size-1,b.size, #[x],gallopOf g):MH0) λ_ c=>hi0 a b c
  match c.1 with
  |some r=>pure r
  |none=>liftM (unsupported "internal:list.sort.merge-bound":Sem (Array AH))
theorem aMU(a b:Array AH):wD a b=hiM a b:=by kernel_rfl
def OKh(r:AH->Nat)(a b:Array AH)(N:Nat)(o:Option (Array AH))(out:Array AH)(na nb:Nat):Prop:=o=none/\HS r a b out.toList na nb/\1<=na/\2<=nb/\na+nb+N<=a.size+b.size
theorem OKh.mono{N N':Nat}{o:Option (Array AH)}{out:Array AH}(h:OKh r a b N o out na nb)(le:N'<=N):OKh r a b N' o out na nb:=⟨h.1,h.2.1,h.2.2.1,h.2.2.2.1,by have:=h.2.2.2.2;omega⟩
section
variable {prog:AD}{w:AL}{A:BK}{E:BH->BI->Prop}{s:BI}{κ:Ao}{r:AH->Nat}{a₀ a b out:Array AH}{st st0:BO}{na nb:Nat}
theorem MPre.first'(M:MPre r a₀ a b):∀i,i<a.size->rkA r b 0<rkA r a i:=λi hi=>bE M.first<|M.asa.le0 (bW _) hi
theorem ex0(xs:Array AH):(xs.extract 0 0).toList=[]:=by simp[eD,dD]
theorem aBD(M:MPre r a₀ a b)(m:HS r a b out.toList na nb)(h:na=0):FIN r a b (some<|dnH a b out na nb):=by subst h;refine⟨_,rfl, ?_⟩;have:=m.finB M.asb;unfold dnH;rw[dH,dH,ex0,yZ,lX];exact this
theorem aBF(M:MPre r a₀ a b)(m:HS r a b out.toList na nb)(h:nb=1):FIN r a b (some<|fsB a b out na nb):=by subst h;refine⟨_,rfl, ?_⟩;have:=m.finL M.asa M.asb M.first';unfold fsB;rw[dH,dH,lX];exact this
theorem HS.pushA'(M:MPre r a₀ a b)(m:HS r a b out.toList na nb)(h1:1<=na)(hb:∀j,j<nb->rkA r b j<rkA r a (na-1)):HS r a b (out.push<|a[na-1]'(by have:=m.ha;omega)).toList (na-1) nb:=by
 rw[jI];have e:na=na-1+1:=by omega
 have m':HS r a b out.toList (na-1+1) nb:=by rw[<-e];exact m
 exact m'.pushA M.asa hb
theorem HS.pushB'(M:MPre r a₀ a b)(m:HS r a b out.toList na nb)(h1:1<=nb)(hb:∀j,j<na->rkA r a j<rkA r b (nb-1)):HS r a b (out.push<|b[nb-1]'(by have:=m.hb;omega)).toList na (nb-1):=by
 rw[jI];have e:nb=nb-1+1:=by omega
 have m':HS r a b out.toList na (nb-1+1):=by rw[<-e];exact m
 exact(m'.swap.pushA M.asb hb).swap
theorem HS.extA'(M:MPre r a₀ a b)(m:HS r a b out.toList na nb){t:Nat}(h:t<=na)(hb:∀i,t<=i->i<na->∀j,j<nb->rkA r b j<rkA r a i):HS r a b (out++(a.extract t na).reverse).toList t nb:=by rw[dH,lX];have:=m.extA M.asa (na-t) (by omega) (by rw[show na-(na-t)=t by omega];exact hb);rw[show na-(na-t)=t by omega] at this;exact this
theorem HS.extB'(M:MPre r a₀ a b)(m:HS r a b out.toList na nb){t:Nat}(h:t<=nb)(hb:∀i,t<=i->i<nb->∀j,j<na->rkA r a j<rkA r b i):HS r a b (out++(b.extract t nb).reverse).toList na t:=by rw[dH,lX];have:=m.extB M.asb (nb-t) (by omega) (by rw[show nb-(nb-t)=t by omega];exact hb);rw[show nb-(nb-t)=t by omega] at this;exact this
def H2(r:AH->Nat)(a b:Array AH)(st0:BO)(N:Nat):ForInStep MH2->BO->Prop:=λq st'=>SameG st0 st'/\match q with
 |.done c=>FIN r a b c.1\/OKh r a b N c.1 c.2.2.2.1 c.2.1 c.2.2.1
 |.yield c=>OKh r a b N c.1 c.2.2.2.1 c.2.1 c.2.2.1
theorem aEB{N mg k k1:Nat}(M:MPre r a₀ a b)(S:SameG st0 st)(m:HS r a b out.toList na nb)(h1:1<=na)(h2:2<=nb)(hN:na-1+nb+N<=a.size+b.size)(hb:∀j,j<nb->rkA r b j<rkA r a (na-1)):wpS (AG prog w) A E s (aOo a b out na nb mg k k1) (H2 r a b st0 N) st:=by
 unfold aOo;have ha:=m.ha;refine AE<|eU (by omega) ?_;have m2:=m.pushA' M h1 hb
 by_cases e:na-1=0
 ·rw[if_pos<|by simpa using e];exact AJ ⟨S,.inl<|aBD M m2 e⟩
 ·rw[if_neg<|by simpa using e]
  split
  ·exact AJ ⟨S,.inr ⟨rfl,m2,by show 1<=na-1;omega,h2,hN⟩⟩
  ·exact AJ ⟨S,rfl,m2,by show 1<=na-1;omega,h2,hN⟩
theorem aEm{N mg k bc:Nat}(K:mD prog w A E s κ r a₀)(hk:kindOf st0=κ)(M:MPre r a₀ a b)(S:SameG st0 st)(m:HS r a b out.toList na nb)(h1:1<=na)(h2:2<=nb)(hN:na-1+nb+N<=a.size+b.size)(hb:∀j,j<na->rkA r a j<rkA r b (nb-1)):wpS (AG prog w) A E s (aOp a b out na nb mg k bc) (H2 r a b st0 N) st:=by
 unfold aOp;have ha:=m.ha;have hbb:=m.hb;refine AE<|eU (by omega) ?_;have m2:=m.pushB' M (by omega) hb
 by_cases e:nb-1=1
 ·rw[if_pos<|by simpa using e];exact AJ ⟨S,.inl<|aBF M m2 e⟩
 ·rw[if_neg<|by simpa using e];have h1':na-1<a.size:=by omega
  refine AE<|eU h1' (AE<|qI K (S.kind.trans hk) M.mb (M.ma _<|by simp) (by omega) (by omega) (λi j h1 h2 h3=>M.asb i j (by omega) h2<|by omega) (λi hi e=>M.ne (na-1) i h1' (by omega)<|by rw[uX] at e;rw[e,eH h1']) λat_ c1 c2 c3=> ?_);dsimp only;simp only[uX] at c2 c3;rw[<-eH (r:=r) h1'] at c2 c3;have m3:=m2.extB' M (t:=at_) c1 λi i1 i2 j hj=>cB (M.asa.le0 (by omega) h1')<|c3 i i1 i2
  have a0:1<=at_:=by
   by_cases q:at_=0
   ·subst q;have:=c3 0 (aP _) (by omega);have:=M.first' (na-1) h1';omega
   ·omega
  by_cases z:nb-1-at_>0
  ·rw[if_pos z]
   by_cases y:at_=1
   ·rw[if_pos<|by simpa using y];exact AJ ⟨S,.inl<|aBF M m3 y⟩
   ·rw[if_neg (by simpa using y),if_neg<|by simp;omega];exact aEB M S m3 h1 (by omega) (by omega) c2
  ·rw[if_neg z];have z0:at_=nb-1:=by omega
   subst z0;exact aEB M S m2 h1 (by omega) (by omega) c2
theorem aKp{N mg ac bc:Nat}(K:mD prog w A E s κ r a₀)(hk:kindOf st0=κ)(M:MPre r a₀ a b)(S:SameG st0 st)(m:HS r a b out.toList na nb)(h1:1<=na)(h2:2<=nb)(hN:na-1+nb+N<=a.size+b.size):wpS (AG prog w) A E s (aLR a b out na nb mg ac bc) (H2 r a b st0 N) st:=by
 unfold aLR;have ha:=m.ha;have hbb:=m.hb;rw[jN];refine AE<|Ax ?_;have S:=S.set mg;have h2':nb-1<b.size:=by omega
 refine AE<|eU h2' (AE<|qI K (S.kind.trans hk) M.ma (M.mb _<|by simp) (by omega) (by omega) (λi j h1 h2 h3=>M.asa i j (by omega) h2<|by omega) (λi hi e=>M.ne i (nb-1) (by omega) h2'<|by rw[uX] at e;rw[e,eH h2']) λat_ c1 c2 c3=> ?_);dsimp only;simp only[uX] at c2 c3;rw[<-eH (r:=r) h2'] at c2 c3;have m3:=m.extA' M (t:=at_) c1 λi i1 i2 j hj=>cB (M.asb.le0 (by omega) h2')<|c3 i i1 i2
 by_cases z:na-at_>0
 ·rw[if_pos z]
  by_cases y:at_=0
  ·rw[if_pos<|by simpa using y];exact AJ ⟨S,.inl<|aBD M m3 y⟩
  ·rw[if_neg<|by simpa using y];exact aEm K hk M S m3 (by omega) h2 (by omega) c2
 ·rw[if_neg z];have z0:at_=na:=by omega
  subst z0;exact aEm K hk M S m h1 h2 hN c2
def H1(r:AH->Nat)(a b:Array AH)(st:BO)(N:Nat):ForInStep MH1->BO->Prop:=λq st'=>st'=st/\match q with
 |.done c=>FIN r a b c.1\/OKh r a b N c.1 c.2.2.2.1 c.2.1 c.2.2.1
 |.yield c=>OKh r a b N c.1 c.2.2.2.1 c.2.1 c.2.2.1
theorem aMI{N mg:Nat}{c:MH1}(K:mD prog w A E s κ r a₀)(hk:kindOf st=κ)(M:MPre r a₀ a b)(h:OKh r a b N c.1 c.2.2.2.1 c.2.1 c.2.2.1):wpS (AG prog w) A E s (hi1 a b mg c) (H1 r a b st<|N+1) st:=by
 obtain⟨o,na,nb,out,ac,bc⟩:=c;obtain⟨h0,m,h1,h2,hN⟩:=h;dsimp only at h0 m h1 h2 hN;unfold hi1;dsimp only;have ha:=m.ha;have hbb:=m.hb;have h1':na-1<a.size:=by omega
 have h2':nb-1<b.size:=by omega
 refine AE<|eU h2' (AE<|eU h1' (AE<|K.ask (M.mb _<|by simp) (M.ma _<|by simp) hk ?_));dsimp only
 by_cases q:r b[nb-1]<r a[na-1]
 ·rw[if_pos<|by simpa using q];refine AE<|eU h1' ?_;have q':rkA r b (nb-1)<rkA r a (na-1):=by rw[eH h1',eH h2'];exact q
  have m2:=m.pushA' M h1 λj hj=>cB (M.asb.le0 (by omega) h2') q'
  by_cases e:na-1=0
  ·rw[if_pos<|by simpa using e];exact AJ ⟨rfl,.inl<|aBD M m2 e⟩
  ·rw[if_neg<|by simpa using e]
   split
   ·exact AJ ⟨rfl,.inr ⟨rfl,m2,by show 1<=na-1;omega,h2,by show na-1+nb+_<=_;omega⟩⟩
   ·exact AJ ⟨rfl,rfl,m2,by show 1<=na-1;omega,h2,by show na-1+nb+_<=_;omega⟩
 ·rw[if_neg<|by simpa using q];refine AE (eU h2' ?_)
  have q':rkA r a (na-1)<rkA r b (nb-1):=by have:=M.ne (na-1) (nb-1) h1' h2';rw[eH h1',eH h2'] at this ⊢;omega
  have m2:=m.pushB' M (by omega) λj hj=>cB (M.asa.le0 (by omega) h1') q'
  by_cases e:nb-1=1
  ·rw[if_pos<|by simpa using e];exact AJ ⟨rfl,.inl<|aBF M m2 e⟩
  ·rw[if_neg<|by simpa using e]
   split
   ·exact AJ ⟨rfl,.inr ⟨rfl,m2,h1,by show 2<=nb-1;omega,by show na+(nb-1)+_<=_;omega⟩⟩
   ·exact AJ ⟨rfl,rfl,m2,h1,by show 2<=nb-1;omega,by show na+(nb-1)+_<=_;omega⟩
def H0(r:AH->Nat)(a b:Array AH)(st0:BO)(N:Nat):ForInStep MH0->BO->Prop:=λq st'=>SameG st0 st'/\match q with
 |.done c=>FIN r a b c.1
 |.yield c=>OKh r a b N c.1 c.2.2.2.1 c.2.1 c.2.2.1
theorem aMT{N:Nat}{c:MH0}(K:mD prog w A E s κ r a₀)(hk:kindOf st0=κ)(M:MPre r a₀ a b)(S:SameG st0 st)(h:OKh r a b N c.1 c.2.2.2.1 c.2.1 c.2.2.1):wpS (AG prog w) A E s (hi0 a b c) (H0 r a b st0<|N+1) st:=by
 obtain⟨o,na,nb,out,mg⟩:=c;obtain⟨h0,m,h1,h2,hN⟩:=h;dsimp only at h0 m h1 h2 hN;unfold hi0;dsimp only;refine AE<|AY (AU (I:=λx d st'=>st'=st/\OKh r a b (N+x) d.1 d.2.2.2.1 d.2.1 d.2.2.1) (Q:=λd st'=>st'=st/\(FIN r a b d.1\/OKh r a b (N+1) d.1 d.2.2.2.1 d.2.1 d.2.2.1)) ?step ?fin ⟨rfl,rfl,m,h1,h2,hN⟩) ?post
 case step=>
  rintro x d st' _ hx ⟨rfl,hd⟩;refine AY (aMI K (S.kind.trans hk) M hd) λq st'' hq=> ?_
  obtain⟨rfl,hq⟩:=hq;cases q with
  |done d=>exact⟨rfl,hq.imp id λz=>z.mono<|by omega⟩
  |yield d=>exact⟨rfl,hq⟩
 case fin=>rintro d st' ⟨rfl,_,_,h3,h4,h5⟩;omega
 case post=>
  rintro d st' ⟨rfl,hd⟩;obtain⟨o1,na,nb,out,ac,bc⟩:=d
  rcases hd with⟨res,e,hres⟩|⟨e,m,h1,h2,hN⟩
  ·dsimp only at e;subst e;exact AJ ⟨S,res,rfl,hres⟩
  ·dsimp only at e m h1 h2 hN;subst e;dsimp only;refine AE (wpS_lift<|wpAny_rule ⟨rfl, ?_⟩);refine AE (AY (AU (I:=λx d st'=>SameG st0 st'/\OKh r a b (N+1+x) d.1 d.2.2.2.1 d.2.1 d.2.2.1) (Q:=λd st'=>SameG st0 st'/\(FIN r a b d.1\/OKh r a b (N+1) d.1 d.2.2.2.1 d.2.1 d.2.2.1)) ?step2 ?fin2 ⟨S,rfl,m,h1,h2,hN⟩) ?post2)
   case step2=>
    rintro x ⟨o2,na,nb,out,mg,ac,bc⟩ st' _ hx ⟨S,_,m,h1,h2,hN⟩;dsimp only at m h1 h2 hN;have key:∀mg,wpS (AG prog w) A E s (aLR a b out na nb mg ac bc) (H2 r a b st0<|N+1+(x+1)) st':=λmg=>aKp K hk M S m h1 h2<|by omega
    unfold hi2;dsimp only
    split<;>
    ·refine AY (key _) λq st'' hq=> ?_
     obtain⟨S',hq⟩:=hq;cases q with
     |done d=>exact⟨S',hq.imp id λz=>z.mono<|by omega⟩
     |yield d=>exact⟨S',hq⟩
   case fin2=>rintro d st' ⟨_,_,_,h3,h4,h5⟩;omega
   case post2=>
    rintro⟨o2,na,nb,out,mg,ac,bc⟩ st' ⟨S,hd⟩
    rcases hd with⟨res,e,hres⟩|⟨e,m,h1,h2,hN⟩
    ·dsimp only at e;subst e;exact AJ ⟨S,res,rfl,hres⟩
    ·dsimp only at e m h1 h2 hN;subst e;dsimp only;rw[jN];exact AE (Ax<|AJ ⟨S.set _,rfl,m,h1,h2,hN⟩)
theorem aBj{Q:Array AH->BO->Prop}(K:mD prog w A E s κ r a₀)(hk:kindOf st=κ)(M:MPre r a₀ a b)
  (h:∀out st',MD r a b out.toList->SameG st st'->Q out st'):wpS (AG prog w) A E s (wD a b) Q st:=by
 rw[aMU];unfold hiM;refine AE (wpS_lift<|wpAny_rule ⟨rfl, ?_⟩);have b1:=M.b1;have a1:=M.a1;refine AE<|eU (by omega) ?_;have m0:HS r a b (#[]:Array AH).toList a.size b.size:=⟨aP _,aP _,by rw[aDn<|by simp,aDn<|by simp];exact .refl _,by simp,λx hx=>by simp at hx,λx hx=>by simp at hx⟩;have m:HS r a b (#[a[a.size-1]]:Array AH).toList (a.size-1) b.size:=m0.pushA' M a1 λj hj=>M.last' j hj
 by_cases e:a.size-1=0
 ·rw[if_pos<|by simpa using e];obtain⟨res,e2,hr⟩:=aBD M m e;cases e2;exact AJ (h _ _ hr<|.refl _)
 ·rw[if_neg<|by simpa using e]
  by_cases e1:b.size=1
  ·rw[if_pos<|by simpa using e1];obtain⟨res,e2,hr⟩:=aBF M m e1;cases e2;exact AJ (h _ _ hr<|.refl _)
  ·rw[if_neg<|by simpa using e1];refine AE (wpS_get (AE<|AY (AU (I:=λx d st'=>SameG st st'/\OKh r a b (x+1) d.1 d.2.2.2.1 d.2.1 d.2.2.1) (Q:=λd st'=>SameG st st'/\FIN r a b d.1) ?step ?fin ⟨.refl _,rfl,m,by show 1<=a.size-1;omega,by show 2<=b.size;omega,by show a.size-1+b.size+(0+1)<=_;omega⟩) ?post))
   case step=>
    rintro x d st' _ hx ⟨S,hd⟩;refine AY (aMT K hk M S hd) λq st'' hq=> ?_
    obtain⟨S',hq⟩:=hq;cases q with
    |done d=>exact⟨S',hq⟩
    |yield d=>exact⟨S',hq⟩
   case fin=>rintro d st' ⟨_,_,_,h3,h4,h5⟩;omega
   case post=>rintro d st' ⟨S,res,e,hr⟩;rw[e];exact AJ<|h _ _ hr S
end
noncomputable abbrev Pnd:=Array<|Nat×Nat×Nat
noncomputable def wbA(sa:Nat)(m:Array AH)(xs:Array AH):Array AH:=m.toList.zipIdx.foldl (λa (q:AH×Nat)=>a.setIfInBounds (sa+q.2) q.1) xs
noncomputable def mgC(x y:Array AH)(na nb sa:Nat):SM Bool:=do
 let merged <-if na<=nb then wF x y else wD x y
 modify λs=>setArr s (wbA sa merged<|AK s)
 let s <-get
 pure (failedOf s).isNone
noncomputable def mgB(xs:Array AH)(sa na sb nb:Nat):SM Bool:=do
 if(na==0)=true then pure true
 else do
  let x <-elem' xs (sa+na-1)
  let q <-nA true x xs sb nb (nb-1)
  match q with
  |some nb=>if(nb==0)=true then pure true else mgC (xs.extract sa sb) (xs.extract sb<|sb+nb) na nb sa
  |_=>pure false
noncomputable def mgA(i:Nat):SM Bool:=do
 let s <-get
 match(AC s)[i]?,(AC s)[i+1]? with
 |some (sa,na,pw),some (sb,nb,_)=>do
  set (BD s (((AC s).setIfInBounds i (sa,na+nb,pw)).eraseIdxIfInBounds<|i+1))
  let y <-elem' (AK s) sb
  let q <-nA false y (AK s) sa na 0
  match q with
  |some k=>mgB (AK s) (sa+k) (na-k) sb nb
  |_=>pure false
 |_,_=>liftM (unsupported "internal:list.sort.pending":Sem Bool)
theorem aNP(i:Nat):mergeAt' i=mgA i:=by kernel_rfl
noncomputable def aQG(pw:Nat):SM (ForInStep<|Option Unit×Unit):=do
 let s <-get
 match(if(AC s).size>1 then(AC s)[(AC s).size-2]? else none) with
 |some (_,_,older)=>
  if older<=pw then pure (.done (none,()))
  else do
   let b <-mergeAt' ((AC s).size-2)
   if(!b)=true then pure (.done (some (),())) else pure (.yield (none,()))
 |_=>pure<|.done (none,())
noncomputable def aBv(lo n size:Nat):SM (ForInStep<|Option Unit×Nat):=do
 let s <-get
 match(AC s).back? with
 |some (s1,n1,_)=>do
  let c <-forIn [:size] ((none,()):Option Unit×Unit) λ_ _=>aQG<|power' size (2*s1+n1) (2*s1+n1+n1+n) size
  match c.1 with
  |some r=>pure<|.done (some r,lo)
  |none=>do
   modify λs=>BD s<|(AC s).modify ((AC s).size-1) λ(st,len,_)=>(st,len,power' size (2*s1+n1) (2*s1+n1+n1+n) size)
   modify λs=>BD s<|(AC s).push (lo,n,0)
   pure (.yield (none,lo+n))
 |_=>do
  modify λs=>BD s<|(AC s).push (lo,n,0)
  pure (.yield (none,lo+n))
noncomputable def aIT(size minrun:Nat)(c:Option Unit×Nat):SM (ForInStep<|Option Unit×Nat):=
 if c.2>=size then pure (.done (none,c.2))
 else do
  let f <-countRun' c.2 (size-c.2)
  match f with
  |some found=>
   if found<minrun then do
    liftM (rule "list.sort.binary-insertion")
    let b <-binarySort' c.2 (min (size-c.2) minrun) found
    if(!b)=true then pure (.done (some (),c.2)) else aBv c.2 (min (size-c.2) minrun) size
   else aBv c.2 found size
  |_=>pure<|.done (some (),c.2)
noncomputable def aMv:SM (ForInStep<|Option Unit×Unit):=do
 let s <-get
 if(AC s).size<=1 then pure (.done (none,()))
 else do
  let b <-mergeAt' (if((if(AC s).size-2>0 then(AC s)[(AC s).size-2-1]?.map (·.2.1) else none).any (·<((AC s)[(AC s).size-2+1]?.elim 0 (·.2.1))))=true then(AC s).size-2-1 else(AC s).size-2)
  if(!b)=true then pure (.done (some (),())) else pure (.yield (none,()))
noncomputable def srM:SM Unit:=do
 let s <-get
 let c <-forIn [:(AK s).size] ((none,0):Option Unit×Nat) λ_ c=>aIT (AK s).size (minRun' (AK s).size (AK s).size 0) c
 match c.1 with
 |some r=>pure r
 |none=>do
  let d <-forIn [:(AK s).size] ((none,()):Option Unit×Unit) λ_ _=>aMv
  match d.1 with
  |some r=>pure r
  |none=>pure ()
theorem aNx:sortRuns'=srM:=by kernel_rfl
variable {xs:Array AH}
theorem aDH{i j t:Nat}(h:i+t<j)(hj:j<=xs.size):rkA r (xs.extract i j) t=rkA r xs (i+t):=by refine iX ?_;rw[Array.getElem?_extract,if_pos<|by omega]
theorem aIX(sa t:Nat):∀ (l:List AH) (n:Nat) (xs:Array AH),sa+n+l.length<=xs.size->((l.zipIdx n).foldl (λa (q:AH×Nat)=>a.setIfInBounds (sa+q.2) q.1) xs)[t]? =if sa+n<=t/\t<sa+n+l.length then l[t-(sa+n)]? else xs[t]?
 |[],n,xs,_=>by rw[if_neg<|by rw[iJ];omega];rfl
 |p::l,n,xs,h=>by
  rw[bU] at h
  have S:(xs.setIfInBounds (sa+n) p)[t]? =if sa+n=t then some p else xs[t]? :=by
   rw[yW]
   by_cases e:sa+n=t
   ·rw[if_pos e,if_pos e,if_pos<|by omega]
   ·rw[if_neg e,if_neg e]
  rw[List.zipIdx_cons,List.foldl_cons,aIX sa t l (n+1) _ (by rw[Array.size_setIfInBounds];omega),bU,S]
  by_cases e:sa+n=t
  ·rw[if_neg (show ¬ (sa+(n+1)<=t/\t<sa+(n+1)+l.length) by omega),if_pos e,if_pos (show sa+n<=t/\t<sa+n+(l.length+1) by omega),show t-(sa+n)=0 by omega];rfl
  ·by_cases q:sa+(n+1)<=t/\t<sa+(n+1)+l.length
   ·rw[if_pos q,if_pos (show sa+n<=t/\t<sa+n+(l.length+1) by omega),show t-(sa+n)=t-(sa+(n+1))+1 by omega,List.getElem?_cons_succ]
   ·rw[if_neg q,if_neg e,if_neg (show ¬ (sa+n<=t/\t<sa+n+(l.length+1)) by omega)]
theorem aMt{sa:Nat}{m:Array AH}(h:sa+m.size<=xs.size)(t:Nat):(wbA sa m xs)[t]? =if sa<=t/\t<sa+m.size then m[t-sa]? else xs[t]? :=by have:=aIX sa t m.toList 0 xs (by simpa using h);unfold wbA;rw[this];simp
theorem aLk{sa:Nat}{m:Array AH}(h:sa+m.size<=xs.size):(wbA sa m xs).toList=xs.toList.take sa++(m.toList++xs.toList.drop (sa+m.size)):=by
 apply oO;intro t;rw[cX,aMt h];have l1:(xs.toList.take sa).length=sa:=by rw[cO];simp;omega
 by_cases h1:t<sa
 ·rw[if_neg<|by omega,gK (by rw[l1];exact h1),aBs h1,cX]
 ·rw[gF (by rw[l1];omega),l1]
  by_cases h2:t<sa+m.size
  ·rw[if_pos ⟨by omega,h2⟩,gK (by simp;omega),cX]
  ·rw[if_neg<|by omega,gF (by simp;omega),List.getElem?_drop,cM];rw[show sa+m.size+(t-sa-m.size)=t by omega,cX]
theorem aDi{sa:Nat}(h:sa+n<=xs.size):xs.toList=xs.toList.take sa++((xs.extract sa<|sa+n).toList++xs.toList.drop (sa+n)):=by
 rw[eD,dD,show sa+n-sa=n by omega];have e:xs.toList.drop (sa+n)=(xs.toList.drop sa).drop n:=by rw[aOm]
 rw[e,fU,fU]
theorem aKq{sa:Nat}{m:Array AH}(h:sa+m.size<=xs.size)(hp:m.toList.Perm (xs.extract sa<|sa+m.size).toList):(wbA sa m xs).Perm xs:=by apply iE.mpr;rw[aLk h];refine List.Perm.trans ?_<|List.Perm.of_eq (aDi (xs:=xs) h).symm;exact List.Perm.append_left _<|List.Perm.append_right _ hp
theorem aJW{i j:Nat}(h1:i<=j)(h2:j<=k)(h3:k<=xs.size):(xs.extract i j).toList++(xs.extract j k).toList=(xs.extract i k).toList:=by simp only[eD,dD];rw[show k-i=(j-i)+(k-j) by omega,List.take_add,aOm,show i+(j-i)=j by omega]
theorem aKM{st2:BO}{Q:PUnit->BO->Prop}(h:Q ⟨⟩ st2):wpS (AG prog w) A E s (set st2:StateT BO Sem PUnit) Q st:=by unfold wpS;rw[StateT.run_set];exact AB ⟨rfl,h⟩
theorem aBq{i sa pw sb pw':Nat}{Q:Bool->BO->Prop}(K:mD prog w A E s κ r a₀)(hB:SB κ a₀ st)(p1:(AC st)[i]? =some (sa,na,pw))(p2:(AC st)[i+1]? =some (sb,nb,pw'))(hs:sb=sa+na)(n1:1<=na)(n2:1<=nb)(hz:sb+nb<=a₀.size)
  (A1:AscR r (AK st) sa sb) (A2:AscR r (AK st) sb (sb+nb))
  (h:∀st',SB κ a₀ st'->AC st'=((AC st).setIfInBounds i (sa,na+nb,pw)).eraseIdxIfInBounds (i+1)->(∀k,k<sa\/sb+nb<=k->(AK st')[k]? =(AK st)[k]?)->AscR r (AK st') sa (sb+nb)->Q true st'):wpS (AG prog w) A E s (mergeAt' i) Q st:=by
 have sz:=hB.size;have mem:∀x∈(AK st).toList,x∈a₀.toList:=λx hx=>(iE.mp hB.perm).mem_iff.mp hx
 rw[aNP];unfold mgA;refine AE<|wpS_get ?_;rw[p1,p2];dsimp only;refine AE<|aKM ?_;have hB1:SB κ a₀ (BD st (((AC st).setIfInBounds i (sa,na+nb,pw)).eraseIdxIfInBounds<|i+1)):=⟨hB.perm,hB.kind,hB.failed⟩
 have h1:∀st',SameG (BD st (((AC st).setIfInBounds i (sa,na+nb,pw)).eraseIdxIfInBounds<|i+1)) st'->AscR r (AK st) sa (sb+nb)->Q true st':=λst' S a=>by refine h st' ⟨by rw[S.arr];exact hB.perm,by rw[S.kind];exact hB.kind,by rw[S.failed];exact hB.failed⟩ S.pend (λk _=>by rw[S.arr]) ?_;rw[S.arr];exact a
 have hsb:sb<(AK st).size:=by omega
 refine AE<|eU hsb (AE<|qI K hB1.kind mem (mem _<|by simp) (by omega) (by omega) (by rw[<-hs];exact A1) (λj hj e=> ?_) λk c1 c2 c3=> ?_)
 ·rw[<-eH (r:=r) hsb] at e;exact hB.ne K (i:=sa+j) (j:=sb) (by omega) (by omega) (by omega) e
 rw[<-eH (r:=r) hsb] at c2 c3
 have c2':∀j,sa<=j->j<sa+k->rkA r (AK st) j<rkA r (AK st) sb:=λj j1 j2=>by
  have:=c2 (j-sa)<|by omega
  rwa[show sa+(j-sa)=j by omega] at this
 have c3':∀j,sa+k<=j->j<sb->rkA r (AK st) sb<rkA r (AK st) j:=λj j1 j2=>by
  have:=c3 (j-sa) (by omega)<|by omega
  rwa[show sa+(j-sa)=j by omega] at this
 have A2l:∀j,sb<=j->j<sb+nb->rkA r (AK st) sb<=rkA r (AK st) j:=λj j1 j2=>by
  by_cases e:j=sb
  ·rw[e];exact aP _
  ·exact dG<|A2 sb j (aP _) (by omega) j2
 dsimp only;unfold mgB
 by_cases e0:na-k=0
 ·rw[if_pos<|by simpa using e0];refine AJ (h1 _ (.refl _) λi j i1 ij j1=> ?_)
  by_cases q1:j<sb
  ·exact A1 i j i1 ij q1
  ·by_cases q2:i<sb
   ·exact bE (c2' i i1<|by omega)<|A2l j (by omega) j1
   ·exact A2 i j (by omega) ij j1
 ·rw[if_neg<|by simpa using e0];have ekn:sa+k+(na-k)-1=sb-1:=by omega
  have hkb:sb-1<(AK st).size:=by omega
  rw[ekn];refine AE<|eU hkb (AE<|qI K hB1.kind mem (mem _<|by simp) (by omega) (by omega) A2 (λj hj e=> ?_) λn2' d1 d2 d3=> ?_)
  ·rw[<-eH (r:=r) hkb] at e;exact hB.ne K (i:=sb+j) (j:=sb-1) (by omega) (by omega) (by omega) e
  rw[<-eH (r:=r) hkb] at d2 d3
  have d2':∀j,sb<=j->j<sb+n2'->rkA r (AK st) j<rkA r (AK st) (sb-1):=λj j1 j2=>by
   have:=d2 (j-sb)<|by omega
   rwa[show sb+(j-sb)=j by omega] at this
  have d3':∀j,sb+n2'<=j->j<sb+nb->rkA r (AK st) (sb-1)<rkA r (AK st) j:=λj j1 j2=>by
   have:=d3 (j-sb) (by omega)<|by omega
   rwa[show sb+(j-sb)=j by omega] at this
  have n2p:n2'≠0:=λz=>by subst z;have a:=d3' sb (by omega) (by omega);have b:=c3' (sb-1) (by omega) (by omega);omega
  dsimp only;rw[if_neg<|by simpa using n2p];unfold mgC
  have M:MPre r a₀ ((AK st).extract (sa+k) sb) ((AK st).extract sb<|sb+n2'):=by
   have s1:((AK st).extract (sa+k) sb).size=sb-(sa+k):=by rw[kN];omega
   have s2:((AK st).extract sb<|sb+n2').size=n2':=by rw[kN];omega
   have e1:∀t,t<sb-(sa+k)->rkA r ((AK st).extract (sa+k) sb) t=rkA r (AK st) (sa+k+t):=λt ht=>aDH (by omega)<|by omega
   have e2:∀t,t<n2'->rkA r ((AK st).extract sb<|sb+n2') t=rkA r (AK st) (sb+t):=λt ht=>aDH (by omega)<|by omega
   refine⟨by omega,by omega,λi j _ ij j1=> ?_,λi j _ ij j1=> ?_,λx hx=> ?_,λx hx=> ?_,λi j i1 j1=> ?_, ?_, ?_⟩
   ·rw[s1] at j1;rw[e1 i<|by omega,e1 j j1];exact A1 _ _ (by omega) (by omega)<|by omega
   ·rw[s2] at j1;rw[e2 i<|by omega,e2 j j1];exact A2 _ _ (by omega) (by omega)<|by omega
   ·rw[eD,dD] at hx;exact mem x (jO<|iK hx)
   ·rw[eD,dD] at hx;exact mem x (jO<|iK hx)
   ·rw[s1] at i1;rw[s2] at j1;rw[e1 i i1,e2 j j1];exact hB.ne K (by omega) (by omega)<|by omega
   ·rw[e1 0<|by omega,e2 0<|by omega];exact c3' _ (by omega)<|by omega
   ·rw[s1,s2,e1 _<|by omega,e2 _<|by omega,show sa+k+(sb-(sa+k)-1)=sb-1 by omega];exact d2' _ (by omega)<|by omega
  have fin:∀out st',MD r ((AK st).extract (sa+k) sb) ((AK st).extract sb (sb+n2')) out.toList→SameG (BD st (((AC st).setIfInBounds i (sa,na+nb,pw)).eraseIdxIfInBounds (i+1))) st'→wpS (AG prog w) A E s (do
    modify λs=>setArr s (wbA (sa+k) out<|AK s)
    let s <-get
    pure (failedOf s).isNone) Q st':=λout st' D S=>by
   refine AE (Ax<|AE (wpS_get<|AJ ?_))
   have ep:out.toList.Perm ((AK st).extract (sa+k)<|sb+n2').toList:=by
    have:=D.1
    rwa[aJW (by omega) (by omega)<|by omega] at this
   have sO:out.size=sb+n2'-(sa+k):=by have:=ep.length_eq;rw[cM,cM,kN] at this;omega
   have hz2:sa+k+out.size<=(AK st).size:=by omega
   have ep2:out.toList.Perm ((AK st).extract (sa+k)<|sa+k+out.size).toList:=by rw[sO,show sa+k+(sb+n2'-(sa+k))=sb+n2' by omega];exact ep
   have ff:failedOf (setArr st' (wbA (sa+k) out<|AK st'))=none:=by show failedOf st'=none;rw[S.failed];exact hB.failed
   rw[ff];have arr':AK st'=AK st:=S.arr
   have at_:∀t,(AK<|setArr st' (wbA (sa+k) out<|AK st'))[t]? =if sa+k<=t/\t<sb+n2' then out[t-(sa+k)]? else(AK st)[t]? :=λt=>by show(wbA (sa+k) out<|AK st')[t]? =_;rw[arr',aMt hz2,sO,show sa+k+(sb+n2'-(sa+k))=sb+n2' by omega]
   refine h _ ⟨?_, ?_,ff⟩ ?_ (λt ht=>by rw[at_,if_neg<|by omega]) ?_
   ·show(wbA (sa+k) out<|AK st').Perm a₀;rw[arr'];exact(aKq hz2 ep2).trans hB.perm
   ·show kindOf st'=κ;rw[S.kind];exact hB.kind
   ·show AC st'=_;rw[S.pend]
   ·have rin:∀t,sa+k<=t->t<sb+n2'->rkA r (AK<|setArr st' (wbA (sa+k) out<|AK st')) t=rkA r out (t-(sa+k)):=λt t1 t2=>iX (by rw[at_,if_pos ⟨t1,t2⟩])
    have rout:∀t,t<sa+k\/sb+n2'<=t->rkA r (AK<|setArr st' (wbA (sa+k) out<|AK st')) t=rkA r (AK st) t:=λt ht=>iX (by rw[at_,if_neg<|by omega])
    have mo:∀u,u<out.size->∃v,sa+k<=v/\v<sb+n2'/\rkA r out u=rkA r (AK st) v:=λu hu=>by
     have hm:out[u]∈((AK st).extract (sa+k)<|sb+n2').toList:=ep.mem_iff.mp (by simp);obtain⟨v,hv,ev⟩:=dE hm
     have hv':v<sb+n2'-(sa+k):=by have:=hv;rw[cM,kN] at this;omega
     refine⟨sa+k+v,by omega,by omega, ?_⟩;rw[eH hu,<-ev,<-aDH (xs:=AK st) (i:=sa+k) (j:=sb+n2') (t:=v) (by omega) (by omega)];rw[eH<|by rw[kN];omega];simp
    have asO:∀u v,u<v->v<out.size->rkA r out u<rkA r out v:=λu v uv hv=>by have:=(jV.mp D.2) u v (by simp;omega) (by simpa using hv) uv;rw[eH<|by omega,eH hv];simpa using this
    have low:∀t u,sa<=t->t<sa+k->u<out.size->rkA r (AK st) t<rkA r out u:=λt u t1 t2 hu=>by
     obtain⟨v,v1,v2,ev⟩:=mo u hu;rw[ev]
     by_cases q:v<sb
     ·exact A1 t v t1 (by omega) q
     ·exact bE (c2' t t1 t2) (A2l v (by omega)<|by omega)
    have high:∀t u,sb+n2'<=t->t<sb+nb->u<out.size->rkA r out u<rkA r (AK st) t:=λt u t1 t2 hu=>by
     obtain⟨v,v1,v2,ev⟩:=mo u hu;rw[ev]
     by_cases q:v<sb
     ·refine cB ?_ (d3' t t1 t2)
      by_cases e:v=sb-1
      ·rw[e];exact aP _
      ·exact dG (A1 v (sb-1) (by omega) (by omega)<|by omega)
     ·exact A2 v t (by omega) (by omega) t2
    intro u v u1 uv v1
    by_cases q1:u<sa+k
    ·rw[rout u<|.inl q1]
     by_cases q2:v<sa+k
     ·rw[rout v<|.inl q2];exact A1 u v u1 uv<|by omega
     ·by_cases q3:v<sb+n2'
      ·rw[rin v (by omega) q3];exact low _ _ u1 q1<|by omega
      ·rw[rout v (.inr<|by omega)];exact bE (c2' u u1 q1)<|A2l v (by omega) v1
    ·by_cases q2:u<sb+n2'
     ·rw[rin u (by omega) q2]
      by_cases q3:v<sb+n2'
      ·rw[rin v (by omega) q3];exact asO _ _ (by omega)<|by omega
      ·rw[rout v (.inr<|by omega)];exact high _ _ (by omega) v1<|by omega
     ·rw[rout u (.inr<|by omega),rout v (.inr<|by omega)];exact A2 u v (by omega) uv v1
  dsimp only
  split
  ·exact AE<|aBm K hB1.kind M fin
  ·exact AE<|aBj K hB1.kind M fin
noncomputable def Runs(r:AH->Nat)(xs:Array AH):Nat->List (Nat×Nat×Nat)->Nat->Prop
 |s,[],e=>s=e
 |s,p::l,e=>p.1=s/\1<=p.2.1/\AscR r xs s (s+p.2.1)/\Runs r xs (s+p.2.1) l e
variable {ys:Array AH}
theorem AscR.keep{s e:Nat}(h:AscR r xs s e)(k:∀t,s<=t->t<e->ys[t]? =xs[t]?):AscR r ys s e:=λi j hi hij hj=>by rw[iX (k i hi<|by omega),iX<|k j (by omega) hj];exact h i j hi hij hj
theorem Runs.le:∀ {l:List (Nat×Nat×Nat)}{s e:Nat},Runs r xs s l e->s+l.length<=e
 |[],s,e,h=>by rw[show s=e from h];exact aP _
 |p::l,s,e,⟨_,h1,_,h2⟩=>by have:=h2.le;rw[bU];omega
theorem Runs.keep:∀ {l:List (Nat×Nat×Nat)}{s e:Nat},Runs r xs s l e->(∀t,s<=t->t<e->ys[t]? =xs[t]?)->Runs r ys s l e
 |[],_,_,h,_=>h
 |p::l,s,e,⟨h0,h1,h2,h3⟩,k=>by have:=h3.le;exact⟨h0,h1,h2.keep λt t1 t2=>k t t1<|by omega,h3.keep λt t1 t2=>k t (by omega) t2⟩
theorem Runs.split:∀ {l1 l2:List (Nat×Nat×Nat)}{s e:Nat},Runs r xs s (l1++l2) e->∃m,Runs r xs s l1 m/\Runs r xs m l2 e
 |[],l2,s,e,h=>⟨s,rfl,h⟩
 |p::l1,l2,s,e,⟨h0,h1,h2,h3⟩=>by obtain⟨m,a,b⟩:=Runs.split h3;exact⟨m,⟨h0,h1,h2,a⟩,b⟩
theorem Runs.app:∀ {l1 l2:List (Nat×Nat×Nat)}{s m e:Nat},Runs r xs s l1 m->Runs r xs m l2 e->Runs r xs s (l1++l2) e
 |[],l2,s,m,e,h,h2=>by rw[show s=m from h];exact h2
 |p::l1,l2,s,m,e,⟨h0,h1,h2,h3⟩,b=>⟨h0,h1,h2,Runs.app h3 b⟩
theorem Runs.pow{l1:List (Nat×Nat×Nat)}{x y:Nat×Nat×Nat}{s e:Nat}(h:Runs r xs s (l1++[x]) e)(h1:y.1=x.1)(h2:y.2.1=x.2.1):Runs r xs s (l1++[y]) e:=by obtain⟨m,a,b⟩:=h.split;refine a.app ?_;obtain⟨b0,b1,b2,b3⟩:=b;exact⟨h1.trans b0,by rw[h2];exact b1,by rw[h2];exact b2,by rw[h2];exact b3⟩
theorem aIp{p:Pnd}{i:Nat}(h:i+1<p.size)(v:Nat×Nat×Nat):p.toList=p.toList.take i++p[i]::p[i+1]::p.toList.drop (i+2)/\((p.setIfInBounds i v).eraseIdxIfInBounds<|i+1).toList=p.toList.take i++v::p.toList.drop (i+2):=by
 have e1:p.toList=p.toList.take i++p[i]::p[i+1]::p.toList.drop (i+2):=by
  have a:p.toList.drop i=p[i]::p.toList.drop (i+1):=by rw[dJ<|by simp;omega];simp
  have b:p.toList.drop (i+1)=p[i+1]::p.toList.drop (i+1+1):=by rw[dJ<|by simp;omega];simp
  rw[<-b,<-a,fU]
 refine⟨e1, ?_⟩;have l1:(p.toList.take i).length=i:=by rw[cO];simp;omega
 rw[Array.toList_eraseIdxIfInBounds,Array.toList_setIfInBounds];generalize p.toList.take i=u at e1 l1;generalize p.toList.drop (i+2)=z at e1;rw[e1];rw[List.set_append_right _ _<|by omega,l1,qB,List.set_cons_zero,List.eraseIdx_append_of_length_le<|by omega,l1,show i+1-i=1 by omega];rfl
theorem aEJ{i e:Nat}{Q:Bool->BO->Prop}(K:mD prog w A E s κ r a₀)(hB:SB κ a₀ st)(R:Runs r (AK st) 0 (AC st).toList e)(he:e<=a₀.size)(hi:i+1<(AC st).size)
  (h:∀st',SB κ a₀ st'->Runs r (AK st') 0 (AC st').toList e->(AC st').size+1=(AC st).size->(∀k,e<=k->(AK st')[k]? =(AK st)[k]?)->Q true st'):wpS (AG prog w) A E s (mergeAt' i) Q st:=by
 obtain⟨e1,_⟩:=aIp hi (0,0,0);have R0:=R;rw[e1] at R0;obtain⟨m,R1,a1,a2,a3,b1,b2,b3,R2⟩:=R0.split
 have h1:(AC st)[i]? =some (m,(AC st)[i].2.1,(AC st)[i].2.2):=by rw[getElem?_pos _ i<|by omega];refine congrArg some ?_;rw[<-a1]
 have h2:(AC st)[i+1]? =some (m+(AC st)[i].2.1,(AC st)[i+1].2.1,(AC st)[i+1].2.2):=by rw[getElem?_pos _ (i+1)<|by omega];refine congrArg some ?_;rw[<-b1]
 have l2:=R2.le;have l1:=R1.le;refine aBq K hB h1 h2 rfl a2 b2 (by omega) a3 b3 λst' hB' hp hk ha=> ?_
 obtain⟨_,e2⟩:=aIp hi (m,(AC st)[i].2.1+(AC st)[i+1].2.1,(AC st)[i].2.2);have ep:(AC st').toList=(AC st).toList.take i++(m,(AC st)[i].2.1+(AC st)[i+1].2.1,(AC st)[i].2.2)::(AC st).toList.drop (i+2):=by rw[hp];exact e2
 refine h st' hB' ?_ ?_ λk hk2=>hk k (.inr<|by omega)
 ·rw[ep];refine(R1.keep λt _ t2=>hk t<|.inl t2).app ⟨rfl,by show 1<=_+_;omega, ?_, ?_⟩
  ·show AscR r (AK st') m (m+(_+_));rw[<-aQh];exact ha
  ·show Runs r (AK st') (m+(_+_)) _ e;rw[<-aQh];exact R2.keep λt t1 _=>hk t<|.inr t1
 ·have:=congrArg oM ep;have q:=congrArg oM e1;simp only[cM,aQ,bU] at this q;omega
structure SR(κ:Ao)(r:AH->Nat)(a₀:Array AH)(lo:Nat)(st:BO):Prop where
 sb:SB κ a₀ st
 runs:Runs r (AK st) 0 (AC st).toList lo
theorem aCa{lo:Nat}{Q:ForInStep (Option Unit×Nat)->BO->Prop}(K:mD prog w A E s κ r a₀)(S:SR κ r a₀ lo st)(n1:1<=n)(hn:lo+n<=a₀.size)(ha:AscR r (AK st) lo (lo+n))(h:∀st',SR κ r a₀ (lo+n) st'->Q (.yield (none,lo+n)) st'):wpS (AG prog w) A E s (aBv lo n a₀.size) Q st:=by
 unfold aBv;refine AE<|wpS_get ?_
 have fin:∀st',SR κ r a₀ lo st'->AscR r (AK st') lo (lo+n)->SR κ r a₀ (lo+n) (BD st'<|(AC st').push (lo,n,0)):=λst' S' ha'=>by refine⟨⟨S'.sb.perm,S'.sb.kind,S'.sb.failed⟩, ?_⟩;show Runs r (AK st') 0 ((AC st').push (lo,n,0)).toList (lo+n);rw[jI];exact S'.runs.app ⟨rfl,n1,ha',rfl⟩
 cases hb:(AC st).back? with
 |none=>exact AE (Ax<|AJ (h _<|fin st S ha))
 |some p=>
  obtain⟨s1,n1',p1⟩:=p;dsimp only;generalize power' a₀.size (2*s1+n1') (2*s1+n1'+n1'+n) a₀.size=pw
  have ne0:1<=(AC st).size:=by
   rcases Nat.eq_zero_or_pos (AC st).size with z|z
   ·rw[Array.eq_empty_of_size_eq_zero z] at hb;cases hb
   ·exact z
  refine AE<|AY (AU (I:=λ_ c st'=>c=(none,())/\SR κ r a₀ lo st'/\1<=(AC st').size/\AscR r (AK st') lo (lo+n)) (Q:=λc st'=>c=(none,())/\SR κ r a₀ lo st'/\1<=(AC st').size/\AscR r (AK st') lo (lo+n)) ?step (λ_ _ z=>z) ⟨rfl,S,ne0,ha⟩) ?post
  case step=>
   rintro x c st' _ hx ⟨rfl,S',ne',ha'⟩;unfold aQG;refine AE<|wpS_get ?_
   by_cases q:(AC st').size>1
   ·rw[if_pos q,getElem?_pos _ _<|by omega];dsimp only
    split
    ·exact AJ ⟨rfl,S',ne',ha'⟩
    ·refine AE<|aEJ K S'.sb S'.runs (by omega) (by omega) λst'' hB hr hs hk=> ?_;rw[if_neg<|by decide];exact AJ ⟨rfl,⟨hB,hr⟩,by omega,ha'.keep λt t1 _=>hk t t1⟩
   ·rw[if_neg q];exact AJ ⟨rfl,S',ne',ha'⟩
  case post=>
   rintro c st' ⟨rfl,S',ne',ha'⟩;dsimp only;refine AE (Ax<|AE (Ax<|AJ (h _<|fin (BD st'<|(AC st').modify ((AC st').size-1) λ(x:Nat×Nat×Nat)=>(x.1,x.2.1,pw)) ⟨⟨S'.sb.perm,S'.sb.kind,S'.sb.failed⟩, ?_⟩ ha')));show Runs r (AK st') 0 ((AC st').modify ((AC st').size-1) λ(x:Nat×Nat×Nat)=>(x.1,x.2.1,pw)).toList lo
   have hl:(AC st').toList≠[]:=λz=>by have:=congrArg oM z;rw[cM,iJ] at this;omega
   have e1:=(mH hl).symm;have R:=S'.runs;rw[e1] at R
   have e2:((AC st').modify ((AC st').size-1) λ(x:Nat×Nat×Nat)=>(x.1,x.2.1,pw)).toList=(AC st').toList.dropLast++[(((AC st').toList.getLast hl).1,((AC st').toList.getLast hl).2.1,pw)]:=by
    apply oO;intro t;rw[cX,Array.getElem?_modify];have ld:(AC st').toList.dropLast.length=(AC st').size-1:=by simp
    by_cases q:(AC st').size-1=t
    ·rw[if_pos q,gF (by rw[ld];omega),ld,q,qB,<-q];rw[List.getLast_eq_getElem];have:(AC st').size-1<(AC st').size:=by omega
     simp[this]
    ·rw[if_neg q]
     by_cases q2:t<(AC st').size-1
     ·rw[gK (by rw[ld];exact q2),List.getElem?_dropLast,if_pos (by simpa using q2),cX]
     ·rw[gF (by rw[ld];omega),ld];rw[pN<|by omega,eR<|by simp;omega]
   rw[e2];exact R.pow rfl rfl
theorem aGc{Q:Unit->BO->Prop}(K:mD prog w A E s κ r a₀)(hB:SB κ a₀ st)(hp:AC st= #[])(h:∀st',SB κ a₀ st'->AscR r (AK st') 0 a₀.size->Q () st'):wpS (AG prog w) A E s sortRuns' Q st:=by
 rw[aNx];unfold srM;refine AE<|wpS_get ?_;have sz:=hB.size;rw[sz];generalize minRun' a₀.size a₀.size 0=minrun;refine AE<|AY (AU (I:=λx c st'=>∃lo,c=(none,lo)/\SR κ r a₀ lo st'/\lo<=a₀.size/\(x<=lo\/lo=a₀.size)) (Q:=λc st'=>c=(none,a₀.size)/\SR κ r a₀ a₀.size st') ?step ?fin ⟨0,rfl,⟨hB,by rw[hp];rfl⟩,bW _,.inl<|aP _⟩) ?post
 case fin=>
  rintro c st' ⟨lo,rfl,S,h1,h2⟩;have:lo=a₀.size:=by omega
  subst this;exact⟨rfl,S⟩
 case step=>
  rintro x c st' _ hx ⟨lo,rfl,S,h1,h2⟩;unfold aIT;dsimp only
  by_cases q:lo>=a₀.size
  ·rw[if_pos q];have:lo=a₀.size:=by omega
   subst this;exact AJ ⟨rfl,S⟩
  ·rw[if_neg q];refine AE<|aCF K S.sb (by omega) (by omega) λm st2 m1 m2 T ha=> ?_;have S2:SR κ r a₀ lo st2:=⟨T.sb,by rw[T.pend];exact S.runs.keep λt _ t2=>T.keep t<|.inl t2⟩;dsimp only
   by_cases z:m<minrun
   ·rw[if_pos z];refine AE (wpS_lift<|wpAny_rule ⟨rfl, ?_⟩);refine AE<|aHg K S2.sb (by omega) (by omega) ha λst3 T3 ha3=> ?_;rw[if_neg<|by decide];refine aCa K ⟨T3.sb,by rw[T3.pend];exact S2.runs.keep λt _ t2=>T3.keep t<|.inl t2⟩ (by omega) (by omega) ha3 λst4 S4=>⟨_,rfl,S4,by omega,.inl<|by omega⟩
   ·rw[if_neg z];exact aCa K S2 m1 (by omega) ha λst4 S4=>⟨_,rfl,S4,by omega,.inl<|by omega⟩
 case post=>
  rintro c st' ⟨rfl,S⟩;dsimp only
  have pl:(AC st').size<=a₀.size:=by have:=S.runs.le;simpa using this
  refine AE<|AY (AU (I:=λx c st''=>c=(none,())/\SR κ r a₀ a₀.size st''/\(AC st'').size<=a₀.size-x) (Q:=λc st''=>c=(none,())/\SR κ r a₀ a₀.size st''/\(AC st'').size<=1) ?step2 ?fin2 ⟨rfl,S,by omega⟩) ?post2
  case fin2=>rintro c st'' ⟨rfl,S,h1⟩;exact⟨rfl,S,by omega⟩
  case step2=>
   rintro x c st'' _ hx ⟨rfl,S,h1⟩;unfold aMv;refine AE<|wpS_get ?_
   by_cases q:(AC st'').size<=1
   ·rw[if_pos q];exact AJ ⟨rfl,S,q⟩
   ·rw[if_neg q];have go:∀i,i+1<(AC st'').size->wpS (AG prog w) A E s (mergeAt' i) (λb st'=>b=true/\SR κ r a₀ a₀.size st'/\(AC st').size<=a₀.size-(x+1)) st'':=λi hi=>aEJ K S.sb S.runs (aP _) hi λst3 hB3 hr hs hk=>⟨rfl,⟨hB3,hr⟩,by omega⟩
    refine AE<|AY (go _ ?_) λb st3 hb=> ?_
    ·have bd:∀c:Bool,(if c=true then(AC st'').size-2-1 else(AC st'').size-2)+1<(AC st'').size:=λc=>by
      cases c
      ·rw[if_neg<|by decide];omega
      ·rw[if_pos rfl];omega
     exact bd _
    ·obtain⟨rfl,S3,h3⟩:=hb;rw[if_neg<|by decide];exact AJ ⟨rfl,S3,h3⟩
  case post2=>
   rintro c st'' ⟨rfl,S,h1⟩;refine AJ<|h st'' S.sb ?_;have R:=S.runs;generalize e:(AC st'').toList=l at R;have ll:l.length<=1:=by rw[<-e];simpa using h1
   match l,ll with
   |[],_=>have:0=a₀.size:=R;intro i j _ _ hj;omega
   |[p],_=>obtain⟨_,_,b,c⟩:=R;have c:0+p.2.1=a₀.size:=c;rw[c] at b;exact b
open PySem.W (KasT kas_sort kas_asc kas_desc kas_tail3 kas_descPart kas_count kas_place kas_bin kas_rev kas_ask kas_item kat_lt kat_cons kat_nil kat_yes kat_no kat_one kat_kind kat_run kat_snds KatTups)
inductive Bel{α:Type}(n:Nat)(P:α->Prop):KasT α->Prop
 |ret {a:α}:P a->Bel n P (.ret a)
 |ask {i j:Nat}{k:Bool->KasT α}:i<n->j<n->(∀b,Bel n P<|k b)->Bel n P (.ask i j k)
def aNV(h:BL)(v:BH)(x:Int×Int):Prop:=∃a o n t u,v=.ref a/\h.get? a=some o/\o.cls=.type "tuple"/\o.data=.seq #[.int x.1 t,.int x.2 u] n
inductive aAY(h:BL):List BH->List (Int×Int)->Prop
 |nil:aAY h [] []
 |cons {v:BH}{x:Int×Int}{vs:List BH}{ps:List (Int×Int)}:aNV h v x->aAY h vs ps->aAY h (v::vs) (x::ps)
open PySem.W (KasT kas_sort kas_asc kas_desc kas_tail3 kas_descPart kas_count kas_place kas_bin kas_rev)
structure Ord(n:Nat)(ans:Nat->Nat->Bool):Prop where
 tr:∀i j k,i<n->j<n->k<n->ans i j=true->ans j k=true->ans i k=true
 ir:∀i,i<n->ans i i=false
 tt:∀i j,i<n->j<n->i≠j->ans i j=true\/ans j i=true
noncomputable abbrev gN(p:Array Nat)(k:Nat):Nat:=p.getD k 0
open PySem.W (KasT kas_sort kas_asc kas_desc kas_tail3 kas_descPart kas_count kas_place kas_bin kas_rev kas_ask kas_item kat_lt kat_cons kat_nil kat_yes kat_no kat_one kat_kind kat_run kat_snds KatTups KatLex)
noncomputable def aIh(fin:Bool):List Int->List Int->Bool
 |a::as,b::bs=>if(a==b)=true then aIh fin as bs else decide (a<b)
 |_,_=>fin
noncomputable def ltI(x y:List Int):Bool:=aIh (decide<|x.length<y.length) x y
def TupAt1(h:BL)(v:BH)(x:List Int):Prop:=∃a o n,∃its:List BH,v=.ref a/\h.get? a=some o/\o.cls=.type "tuple"/\o.data=.seq its.toArray n/\IntsAre its x/\x≠[]
inductive TupsAt(h:BL):List BH->List (List Int)->Prop
 |nil:TupsAt h [] []
 |cons {v:BH}{x:List Int}{vs:List BH}{ps:List (List Int)}:TupAt1 h v x->TupsAt h vs ps->TupsAt h (v::vs) (x::ps)
theorem TupsAt.tups{h:BL}{vs:List BH}{ps:List (List Int)}(p:TupsAt h vs ps):∃fs:List BH,KatTups h vs fs/\fs.length=ps.length/\∀v∈fs,∃i t,v=.int i t:=by
 induction p with
 |nil=>exact⟨[],.nil,rfl,λv hv=>by cases hv⟩
 |cons a _ ih=>
  obtain⟨a,o,n,its,rfl,g,c,d,hi,hne⟩:=a;obtain⟨fs,k,l,i⟩:=ih;cases hi with
  |nil=>exact absurd rfl hne
  |cons z t hi=>
   refine⟨.int z t::fs,.cons g c d (by simp) k,by rw[bU,bU,l],λv hv=> ?_⟩
   rcases aW.mp hv with rfl|hv
   ·exact⟨_,_,rfl⟩
   ·exact i v hv
theorem aQt{fin:Bool}{Q:Bool->BI->Prop}:∀ {x y:List Int}{vs us:List BH} (i:Nat),IntsAre vs x->IntsAre us y->Q (aIh fin x y) s->KatLex prog w A true fin Q (vs.zip us) (i+1) s
 |[],y,_,us,i,.nil,_,h=>by
  have e:aIh fin [] y=fin:=by cases y<;>rfl
  rw[e] at h;rw[aJo];exact kat_nil h
 |a::as,[],_::_,_,i,.cons _ _ _,.nil,h=>by rw[aHZ];exact kat_nil h
 |a::as,b::bs,_::_,_::_,i,.cons _ t h1,.cons _ u h2,h=>by
  rw[eW];refine kat_cons<|wpAny_eqBool_int ?_
  by_cases e:(a==b)=true
  ·rw[e];refine kat_yes<|aQt (i+1) h1 h2 ?_;unfold aIh at h;rw[if_pos e] at h;exact h
  ·rw[gY.mpr e];unfold aIh at h;rw[if_neg e] at h;refine kat_no ?_;have e0:(true&&(i+1==0))=false:=by simp
   rw[e0];exact kat_one _ _<|PyProof.Rows.lt_int h
theorem askI{v1 v2:BH}{x y:List Int}{Q:Bool->BI->Prop}(h1:TupAt1 s.heap v1 x)(h2:TupAt1 s.heap v2 y)(h:Q (ltI x y) s):AI (AG prog w) A (keyLt' (tuples' true) v1 v2) Q E s:=by
 obtain⟨a,o,n,its,rfl,g,c,d,i1,e1⟩:=h1;obtain⟨a2,o2,n2,its2,rfl,g2,c2,d2,i2,e2⟩:=h2;have l1:its.length=x.length:=i1.length;have l2:its2.length=y.length:=i2.length;refine kat_lt g d g2 d2 ?_;unfold ltI at h;rw[aV,aV,l1,l2];show KatLex prog w A true _ Q (its.zip its2) 0 s;cases i1 with
 |nil=>exact absurd rfl e1
 |cons p t i1=>
  cases i2 with
  |nil=>exact absurd rfl e2
  |cons q u i2=>
   rw[eW];refine kat_cons<|wpAny_eqBool_int ?_
   by_cases e:(p==q)=true
   ·rw[e];refine kat_yes<|aQt 0 i1 i2 ?_;unfold aIh at h;rw[if_pos e] at h;exact h
   ·rw[gY.mpr e];unfold aIh at h;rw[if_neg e] at h;exact kat_no<|oneLt_int h
theorem aPL{vs:List BH}{ps:List (List Int)}{Q:Ao->BI->Prop}(p:TupsAt s.heap vs ps)(h0:0<ps.length)(h:Q (tuples' true) s):AI (AG prog w) A (keyKind' vs.toArray) Q E s:=by obtain⟨fs,k,l,i⟩:=p.tups;refine kat_kind (T:=.type "int") k (by omega) (λv hv=> ?_) rfl h;obtain⟨n,t,rfl⟩:=i v hv;exact .now
theorem yC{a b:List Nat}{j:Nat}(ha:∀x∈a,x<j)(hb:∀x∈b,j<=x):∀ (fuel lo hi:Nat),hi-lo<=fuel->lo<=a.length->a.length<=hi->hi<=(a++b).length->gM.go (a++b).toArray j fuel lo hi=a.length
 |0,lo,hi,h1,h2,h3,h4=>by unfold gM.go;omega
 |fuel+1,lo,hi,h1,h2,h3,h4=>by
  unfold gM.go
  by_cases hlt:lo<hi
  ·rw[if_pos hlt];have hm:(lo+hi) / 2<hi:=by omega
   have hl:(lo+hi) / 2<(a++b).length:=by omega
   have hl2:(lo+hi) / 2<a.length+b.length:=by rw[<-aQ];exact hl
   have e:(a++b).toArray.getD ((lo+hi) / 2) j=(a++b)[(lo+hi) / 2]:=by simp[Array.getD,hl2]
   dsimp only;rw[e]
   by_cases hc:(lo+hi) / 2<a.length
   ·have:(a++b)[(lo+hi) / 2]<j:=by rw[List.getElem_append_left hc];exact ha _ (eJ hc)
    rw[if_pos this];exact yC ha hb fuel _ _ (by omega) (by omega) h3 h4
   ·have hb':j<=(a++b)[(lo+hi) / 2]:=by rw[List.getElem_append_right<|by omega];exact hb _ (eJ _)
    rw[if_neg<|by omega];exact yC ha hb fuel _ _ (by omega) h2 (by omega)<|by omega
  ·rw[if_neg hlt];omega
theorem sV{a b:List Nat}{j:Nat}(ha:∀x∈a,x<j)(hb:∀x∈b,j<=x):gM (a++b).toArray j=a.length:=by unfold gM;rw[aV];exact yC ha hb _ _ _ (by omega) (bW _) (by simp)<|aP _
theorem aDR(j:Nat):∀ {xs:List Nat},xs.Pairwise (·<·)->∃a b,xs=a++b/\(∀x∈a,x<j)/\∀x∈b,j<=x
 |[],_=>⟨[],[],rfl,(λx h=>by cases h),λx h=>by cases h⟩
 |x::xs,h=>by
  obtain⟨h1,h2⟩:=dR.mp h
  by_cases hx:x<j
  ·obtain⟨a,b,e,ha,hb⟩:=aDR j h2;refine⟨x::a,b,by rw[e];rfl,λy hy=> ?_,hb⟩
   rcases aW.mp hy with rfl|hy
   ·exact hx
   ·exact ha y hy
  ·refine⟨[],x::xs,rfl,(λy h=>by cases h),λy hy=> ?_⟩
   rcases aW.mp hy with rfl|hy
   ·omega
   ·have:=h1 y hy;omega
noncomputable def yT(m:Nat)(p:SetTable.Probe):SetTable.Probe:=if p.more>0 then{p with j:=p.j+1,more:=p.more-1} else{p with j:=(nE m p.i p.perturb).1,more:=cD m (nE m p.i p.perturb).1-(nE m p.i p.perturb).1,i:=(nE m p.i p.perturb).1,perturb:=(nE m p.i p.perturb).2}
noncomputable def at0(m i q:Nat):SetTable.Probe:={j:=i,more:=cD m i-i,i:=i,perturb:=q,dummy:=none}
noncomputable def pr(m:Nat)(h:Int):Nat->SetTable.Probe
 |0=>at0 m (cH h%(m+1))<|cH h
 |n+1=>yT m<|pr m h n
theorem yF(m:Nat)(h:Int):∀n,(pr m h n).dummy=none
 |0=>rfl
 |n+1=>by
  show(yT m<|pr m h n).dummy=none;unfold yT
  split
  ·exact yF m h n
  ·exact yF m h n
noncomputable def lp(m:Nat)(h:Int):Nat->Nat
 |0=>cH h%(m+1)
 |k+1=>(lp m h k*5+1+cH h / 32^k / 32)%(m+1)
theorem aNg(m i:Nat):cD m i-i<=9:=by
 unfold cD
 split<;>omega
theorem uE(m:Nat)(h:Int)(n i q:Nat)(e:pr m h n=at0 m i q):∀r,r<=cD m i-i->pr m h (n+r)={at0 m i q with j:=i+r,more:=cD m i-i-r}
 |0,_=>e
 |r+1,hr=>by have ih:=uE m h n i q e r (by omega);show yT m (pr m h<|n+r)=_;rw[ih];unfold yT;rw[if_pos<|by show cD m i-i-r>0;omega];rfl
theorem aEY(m:Nat)(h:Int):∀k,∃n,n<=10*k/\pr m h n=at0 m (lp m h k) (cH h / 32^k)
 |0=>⟨0,aP _,by show at0 _ _ _=_;rw[aGo,aIc];rfl⟩
 |k+1=>by
  obtain⟨n,hn,e⟩:=aEY m h k;have r9:=aNg m<|lp m h k;have e2:=uE m h n _ _ e _<|aP _;refine⟨n+(cD m (lp m h k)-lp m h k)+1,by omega, ?_⟩;show yT m (pr m h _)=_;rw[e2];unfold yT;rw[if_neg<|by show ¬ (cD m (lp m h k)-lp m h k-(cD m (lp m h k)-lp m h k)>0);omega];show at0 m _ _=at0 m _ _;have z:cH h / 32^(k+1)=cH h / 32^k / 32:=by rw[pZ,qC]
  rw[z];rfl
noncomputable def itM(m:Nat):Nat->Nat->Nat
 |0,i=>i
 |q+1,i=>(itM m q i*5+1)%(m+1)
theorem aKr(h:Int):cH h<2^64:=by unfold cH;have h1:=dM h (show((2:Int)^64)≠0 by decide);have h2:=cK h (show(0:Int)<2^64 by decide);omega
theorem aBg(m:Nat)(h:Int):∀q,lp m h (13+q)=itM m q (lp m h 13)
 |0=>rfl
 |q+1=>by
  show(lp m h (13+q)*5+1+cH h / 32^(13+q) / 32)%(m+1)=(itM m q (lp m h 13)*5+1)%(m+1);rw[aBg m h q]
  have z:cH h / 32^(13+q)=0:=by refine Nat.div_eq_of_lt (bE (aKr h) ?_);exact cJ (show 2^64<=32^13 by decide) (mG (by decide)<|Nat.le_add_right _ _)
  rw[z]
theorem aPP(m:Nat)(h:Int):∀k,lp m h k<m+1
 |0=>uL _<|uY _
 |k+1=>uL _<|uY _
def okM(m:Nat):Prop:=m=7
theorem cov{m:Nat}(hm:okM m){i e:Nat}(hi:i<m+1)(he:e<m+1):∃q,q<m+1/\itM m q i=e:=by obtain rfl:m=7:=hm;exact(by decide+kernel:∀i,i<8->∀e,e<8->∃q,q<8/\itM 7 q i=e) i hi e he
theorem aCb{m:Nat}(hm:okM m)(h:Int){e:Nat}(he:e<m+1):∃k n,k<m+14/\lp m h k=e/\n<=10*k/\(pr m h n).j=e:=by obtain⟨q,hq,eq⟩:=cov hm (aPP m h 13) he;obtain⟨n,hn,en⟩:=aEY m h<|13+q;refine⟨13+q,n,by omega,by rw[aBg];exact eq,hn, ?_⟩;rw[en,aBg,eq];rfl
def pbQ(m:Nat)(p:SetTable.Probe):Prop:=p.j<=m/\p.j+p.more<=m/\p.i<m+1
theorem aIr{m:Nat}(i:Nat)(q:Nat)(d:Option Nat)(hi:i<m+1):pbQ m {j:=i,more:=cD m i-i,i:=i,perturb:=q,dummy:=d}:=by
 refine⟨by show i<=m;omega, ?_,hi⟩;show i+(cD m i-i)<=m;unfold cD
 split<;>omega
theorem aLy{m:Nat}{p:SetTable.Probe}(h:pbQ m p):pbQ m (yT m p):=by
 obtain⟨h1,h2,h3⟩:=h;unfold yT
 split
 ·exact⟨by show p.j+1<=m;omega,by show p.j+1+(p.more-1)<=m;omega,h3⟩
 ·exact aIr _ _ _ (uL _<|uY _)
theorem aQJ{m:Nat}(h:Int):∀n:Nat,pbQ m (pr m h n)
 |0=>aIr _ _ _ (uL _<|uY _)
 |n+1=>aLy<|aQJ h n
noncomputable abbrev kJ:=Nat×List Key×BJ
structure TabT(hs:List Key->Int)(t:BP)(es:Array (Int×BH))(T:List kJ):Prop where
 om:okM t.mask
 pl:t.place=(T.map (·.1)).toArray
 en:es=(T.map λr=>(hs r.2.1,Value.ref r.2.2)).toArray
 du:t.dummies= #[]
 rs:(T.map (·.1)).Pairwise (·<·)
 lt:∀r∈T,r.1<=t.mask
 rc:∀r∈T,∃n,(pr t.mask (hs r.2.1) n).j=r.1/\∀i,i<n->(pr t.mask (hs r.2.1) i).j∈T.map (·.1)
 kn:(T.map (·.2.1)).Nodup
variable {hs:List Key->Int}{t:BP}{es:Array (Int×BH)}{T:List kJ}
theorem TabT.slot_live(X:TabT hs t es T){A B:List kJ}{r:kJ}(e:T=A++r::B):t.slot r.1=.live A.length:=by
 have h:=X.rs;rw[e,aJ,aZ] at h;obtain⟨_,h2,h3⟩:=eX.mp h
 have hb:=sV (a:=A.map (·.1)) (b:=r.1::B.map (·.1)) (j:=r.1) (λx hx=>h3 x hx r.1 aH) λx hx=>by
  rcases aW.mp hx with rfl|hx
  ·exact aP _
  ·exact dG<|(dR.mp h2).1 x hx
 unfold aJr;rw[X.pl,e,aJ,aZ,hb];simp
theorem TabT.slot_empty(X:TabT hs t es T){j:Nat}(h:j∉T.map (·.1)):t.slot j=.empty:=by
 obtain⟨a,b,e,ha,hb⟩:=aDR j X.rs;have hbl:=sV ha hb;unfold aJr;rw[X.pl,X.du,e,hbl]
 have hn:((a++b).toArray[a.length]? ==some j)=false:=by
  cases b with
  |nil=>simp
  |cons y b=>
   have:y≠j:=λz=>h (by rw[e,<-z];simp)
   simp[this]
 dsimp only;rw[hn];rfl
theorem aHr{j:Nat}(h:j∈T.map (·.1)):∃A r B,T=A++r::B/\r.1=j:=by obtain⟨r,hr,e⟩:=aE.mp h;obtain⟨A,B,q⟩:=aIb hr;exact⟨A,r,B,q,e⟩
theorem TabT.same_row(X:TabT hs t es T){r r':kJ}(h:r∈T)(h':r'∈T)(e:r.1=r'.1):r=r':=by
 obtain⟨A,B,q⟩:=aIb h;have hp:=X.rs;rw[q,aJ,aZ] at hp;obtain⟨_,h2,h3⟩:=eX.mp hp;rw[q] at h'
 rcases aU.mp h' with z|z
 ·have:=h3 r'.1 (cP z) r.1 aH;omega
 ·rcases aW.mp z with z|z
  ·exact z.symm
  ·have:=(dR.mp h2).1 r'.1<|cP z;omega
theorem aEl(X:TabT hs t es T){hashAt:Nat->Int}(hh:∀A r B,T=A++r::B->hashAt A.length=hs r.2.1)(h:Int):∀ (fuel n e:Nat),n<=e->e-n<fuel->(pr t.mask h e).j∉T.map (·.1)->
  ∃k,n<=k/\k<=e/\(∀i,n<=i->i<k->(pr t.mask h i).j∈T.map (·.1)/\∀r∈T,r.1=(pr t.mask h i).j->hs r.2.1≠h)/\
   (((pr t.mask h k).j∉T.map (·.1)∧iN.go t hashAt h fuel (pr t.mask h n)=some (.empty (pr t.mask h k).j none))∨
    ∃A r B,T=A++r::B/\r.1=(pr t.mask h k).j/\hs r.2.1=h/\iN.go t hashAt h fuel (pr t.mask h n)=some (.candidate (pr t.mask h k).j A.length (pr t.mask h (k+1))))
 |0,n,e,h1,h2,h3=>by omega
 |fuel+1,n,e,h1,h2,h3=>by
  by_cases hm:(pr t.mask h n).j∈T.map (·.1)
  ·obtain⟨A,r,B,q,er⟩:=aHr hm;have hl:=X.slot_live q;rw[er] at hl
   have hlt:n<e:=by
    rcases eE h1 with z|z
    ·exact z
    ·rw[z] at hm;exact absurd hm h3
   by_cases hq:hs r.2.1=h
   ·refine⟨n,aP _,h1,(λi a b=>by omega),.inr ⟨A,r,B,q,er,hq, ?_⟩⟩;unfold iN.go;rw[hl];simp only;rw[hh A r B q,hq];simp;rfl
   ·obtain⟨k,k1,k2,k3,k4⟩:=aEl X hh h fuel (n+1) e hlt (by omega) h3;refine⟨k,by omega,k2,λi a b=> ?_, ?_⟩
    ·rcases eE a with z|z
     ·exact k3 i z b
     ·subst z;refine⟨hm,λr' hr' e'=> ?_⟩;have:r'=r:=X.same_row hr' (by rw[q];simp)<|e'.trans er.symm;rw[this];exact hq
    ·have st:iN.go t hashAt h (fuel+1) (pr t.mask h n)=iN.go t hashAt h fuel (pr t.mask h<|n+1):=by
      conv=>lhs;unfold iN.go
      rw[hl];simp only;rw[hh A r B q,if_neg<|by simpa using hq];rfl
     rw[st];exact k4
  ·refine⟨n,aP _,h1,(λi a b=>by omega),.inl ⟨hm, ?_⟩⟩;unfold iN.go;rw[X.slot_empty hm];simp only;rw[yF]
theorem TabT.room(X:TabT hs t es T)(hl:T.length<=t.mask)(h:Int):∃e,e<10*iA t.mask/\(pr t.mask h e).j∉T.map (·.1)/\∀i,i<e->(pr t.mask h i).j∈T.map (·.1):=by
 have ex:∃j,j<t.mask+1/\j∉T.map (·.1):=by
  refine Classical.byContradiction λhn=> ?_
  have all:∀j∈bO (t.mask+1),j∈T.map (·.1):=λj hj=>Classical.byContradiction λz=>hn ⟨j,bP.mp hj,z⟩
  have:=(pG (n:=t.mask+1)).length_le_of_subset all;rw[fQ,aA] at this;omega
 obtain⟨j,hj,hn⟩:=ex;obtain⟨k,n,h1,h2,h3,h4⟩:=aCb X.om h hj;have:∃e,(pr t.mask h e).j∉T.map (·.1):=⟨n,by rw[h4];exact hn⟩
 obtain⟨e,he,hmin⟩:∃e,(pr t.mask h e).j∉T.map (·.1)/\∀i,i<e->¬ (pr t.mask h i).j∉T.map (·.1):=by
  refine Classical.byContradiction λz=> ?_
  have noall:∀m,∀i,i<m->¬ (pr t.mask h i).j∉T.map (·.1):=λm=>by
   induction m with
   |zero=>intro i hi;omega
   |succ m ih=>
    intro i hi hc
    rcases eE (Nat.le_of_lt_succ hi) with q|q
    ·exact ih i q hc
    ·subst q;exact z ⟨i,hc,ih⟩
  obtain⟨e,he⟩:=this;exact noall (e+1) e (jW _) he
 refine⟨e, ?_,he,λi hi=>Classical.byContradiction λz=>hmin i hi z⟩;have:e<=n:=aLL λz=>hmin n z (by rw[h4];exact hn)
 unfold iA;omega
theorem TabT.ahead(X:TabT hs t es T){r:kJ}(hr:r∈T){e:Nat}(he:(pr t.mask (hs r.2.1) e).j∉T.map (·.1)):∃n,n<e/\(pr t.mask (hs r.2.1) n).j=r.1:=by
 obtain⟨n,h1,h2⟩:=X.rc r hr;refine⟨n,Nat.lt_of_not_le λz=> ?_,h1⟩
 rcases eE z with q|q
 ·exact he<|h2 e q
 ·subst q;exact he (by rw[h1];exact cP hr)
theorem cutT(h:(T.map (·.1)).Pairwise (·<·)){j:Nat}(hj:j∉T.map (·.1)):∃A B,T=A++B/\(∀r∈A,r.1<j)/\∀r∈B,j<r.1:=by
 obtain⟨a,b,e,ha,hb⟩:=aDR j h;refine⟨T.take a.length,T.drop a.length,(fU _ _).symm,λr hr=> ?_,λr hr=> ?_⟩
 ·have:r.1∈(T.take a.length).map (·.1):=cP hr;rw[lW,e,List.take_left] at this;exact ha _ this
 ·have h1:r.1∈(T.drop a.length).map (·.1):=cP hr;rw[kH,e,List.drop_left] at h1;have h2:=hb _ h1
  rcases eE h2 with q|q
  ·exact q
  ·exact absurd (cP<|jO hr) (by rw[q] at hj;exact hj)
theorem TabT.put(X:TabT hs t es T){j:Nat}{k:List Key}{a:BJ}(hj:j∉T.map (·.1))(hm:j<=t.mask)(hk:k∉T.map (·.2.1))(hr:∃n,(pr t.mask (hs k) n).j=j/\∀i,i<n->(pr t.mask (hs k) i).j∈T.map (·.1))(b:Bool):
  ∃A B,T=A++B/\TabT hs {(t.put j).1 with plain:=b} (jD es (t.put j).2 (hs k,.ref a)) (A++(j,k,a)::B):=by
 obtain⟨A,B,e,hA,hB⟩:=cutT X.rs hj
 have hbl:gM t.place j=A.length:=by rw[X.pl,e,aJ];rw[sV (a:=A.map (·.1)) (b:=B.map (·.1)) (λx hx=>by obtain⟨r,hr,rfl⟩:=aE.mp hx;exact hA r hr) λx hx=>by obtain⟨r,hr,rfl⟩:=aE.mp hx;exact dG<|hB r hr];rw[aA]
 have e1:(t.put j).2=A.length:=hbl
 have e2:(t.put j).1.place=((A++(j,k,a)::B).map (·.1)).toArray:=by show jD t.place (gM t.place j) j=_;rw[hbl,X.pl,aMc,e];congr 1;rw[aJ,aJ,aZ,aLG (by rw[aA]),aLH<|by rw[aA]]
 have e3:(t.put j).1.dummies= #[]:=by show(if SetTable.has t.dummies j then _ else t.dummies)= #[];rw[X.du];rfl
 have mem:∀ {x:Nat},x∈T.map (·.1)->x∈(A++(j,k,a)::B).map (·.1):=λ{x} hx=>by
  rw[e,aJ] at hx;rw[aJ,aZ]
  rcases aU.mp hx with z|z
  ·exact bN _ z
  ·exact aM _<|aI _ z
 have rows:∀ {r:kJ},r∈A++(j,k,a)::B->r=(j,k,a)\/r∈T:=λ{r} hr=>by
  rcases aU.mp hr with z|z
  ·exact .inr (by rw[e];exact bN _ z)
  ·rcases aW.mp z with z|z
   ·exact .inl z
   ·exact .inr (by rw[e];exact aM _ z)
 refine⟨A,B,e,X.om,e2, ?_,e3, ?_,λr hr'=> ?_,λr hr'=> ?_, ?_⟩
 ·rw[e1,X.en,aMc,e];congr 1;rw[aJ,aJ,aZ,aLG (by rw[aA]),aLH<|by rw[aA]]
 ·have hp:=X.rs;rw[e,aJ] at hp;obtain⟨p1,p2,p3⟩:=eX.mp hp;rw[aJ,aZ];refine eX.mpr ⟨p1,dR.mpr ⟨λx hx=> ?_,p2⟩,λx hx y hy=> ?_⟩
  ·obtain⟨r,hr,rfl⟩:=aE.mp hx;exact hB r hr
  ·obtain⟨r,hrA,rfl⟩:=aE.mp hx
   rcases aW.mp hy with hy|hy
   ·rw[show y=j from hy];exact hA r hrA
   ·exact p3 _ (cP hrA) y hy
 ·rcases rows hr' with rfl|z
  ·exact hm
  ·exact X.lt r z
 ·rcases rows hr' with rfl|z
  ·obtain⟨n,q1,q2⟩:=hr;exact⟨n,q1,λi hi=>mem<|q2 i hi⟩
  ·obtain⟨n,q1,q2⟩:=X.rc r z;exact⟨n,q1,λi hi=>mem<|q2 i hi⟩
 ·have hn:=X.kn;rw[e,aJ] at hn hk;obtain⟨n1,n2,n3⟩:=bK.mp hn;rw[aJ,aZ];refine bK.mpr ⟨n1,cC.mpr ⟨λz=>hk<|aM _ z,n2⟩,λx hx y hy=> ?_⟩
  rcases aW.mp hy with rfl|hy
  ·exact λz=>hk (bN _<|z▸hx)
  ·exact n3 x hx y hy
def emp(ow:Array (Option Nat))(j:Nat):Prop:=(ow.getD j<|some 0).isNone=true
theorem aLg{m:Nat}{h:Int}{c:Nat}(e:pr m h n=at0 m (lp m h c) (cH h / 32^c)):pr m h (n+(cD m (lp m h c)-lp m h c)+1)=at0 m (lp m h<|c+1) (cH h / 32^(c+1)):=by
 have e2:=uE m h n _ _ e _<|aP _;show yT m (pr m h _)=_;rw[e2];unfold yT;rw[if_neg<|by show ¬ (cD m (lp m h c)-lp m h c-(cD m (lp m h c)-lp m h c)>0);omega];show at0 m _ _=at0 m _ _;have z:cH h / 32^(c+1)=cH h / 32^c / 32:=by rw[pZ,qC]
 rw[z];rfl
theorem aAh{m:Nat}{ow:Array (Option Nat)}(h:Int):∀ (fuel c n k:Nat),pr m h n=at0 m (lp m h c) (cH h / 32^c)->c<=k->k-c<fuel->emp ow (lp m h k)->
  ∃j n',kO.free m ow fuel (lp m h c) (cH h / 32^c)=some j/\n<=n'/\(pr m h n').j=j/\emp ow j/\∀i,n<=i->i<n'->¬ emp ow (pr m h i).j
 |0,c,n,k,e,h1,h2,h3=>by omega
 |fuel+1,c,n,k,e,h1,h2,h3=>by
  have rl:lp m h c<=cD m (lp m h c):=by
   unfold cD
   split<;>omega
  cases hf:(bO<|cD m (lp m h c)+1-lp m h c).find? λx=>(ow.getD (lp m h c+x)<|some 0).isNone with
  |some x=>
   have hx:=List.find?_some hf;have hm:=bP.mp<|List.mem_of_find?_eq_some hf;refine⟨lp m h c+x,n+x, ?_,by omega, ?_,hx,λi i1 i2 hc=> ?_⟩
   ·unfold kO.free;rw[hf]
   ·rw[uE m h n _ _ e x<|by omega]
   ·have er:=uE m h n _ _ e (i-n) (by omega);rw[show n+(i-n)=i by omega] at er;rw[er] at hc;obtain⟨l1,l2,el,hl⟩:=yV.mp hf |>.2
    have hmem:(i-n)∈l1:=by
     have hp:(l1++x::l2).Pairwise (·<·):=el▸List.pairwise_lt_range;have hin:(i-n)∈l1++x::l2:=el▸bP.mpr (by omega)
     rcases aU.mp hin with z|z
     ·exact z
     ·rcases aW.mp z with z|z
      ·omega
      ·have:=(dR.mp (eX.mp hp).2.1).1 _ z;omega
    have:=hl _ hmem;have hc':(ow.getD (lp m h c+(i-n))<|some 0).isNone=true:=hc;simp only[hc',jG,aX] at this
  |none=>
   have hno:∀x,x<cD m (lp m h c)+1-lp m h c->¬ emp ow (lp m h c+x):=λx hx hc=>by have:=iZ.mp hf x<|bP.mpr hx;exact this hc
   have hlt:c<k:=by
    rcases eE h1 with z|z
    ·exact z
    ·subst z;exact absurd h3 (by have:=hno 0 (by omega);rwa[Nat.add_zero] at this)
   obtain⟨j,n',a1,a2,a3,a4,a5⟩:=aAh h fuel (c+1) _ k (aLg e) hlt (by omega) h3;refine⟨j,n', ?_,by omega,a3,a4,λi i1 i2 hc=> ?_⟩
   ·unfold kO.free;rw[hf];have z:cH h / 32^(c+1)=cH h / 32^c / 32:=by rw[pZ,qC]
    rw[z] at a1;exact a1
   ·by_cases hi:i<n+(cD m (lp m h c)-lp m h c)+1
    ·have er:=uE m h n _ _ e (i-n) (by omega);rw[show n+(i-n)=i by omega] at er;rw[er] at hc;exact hno (i-n) (by omega) hc
    ·exact a5 i (by omega) i2 hc
theorem emp_iff{ow:Array (Option Nat)}{j:Nat}:emp ow j↔ow[j]? =some none:=by
 unfold emp;rw[Array.getD_eq_getD_getElem?];cases h:ow[j]? with
 |none=>simp
 |some o=>cases o<;>simp
structure LI(m:Nat)(ow:Array (Option Nat))(dn:List Int):Prop where
 sz:ow.size=m+1
 at_:∀ (x:Nat) (h:Int),dn[x]? =some h->∃j,ow[j]? =some (some x)/\∃n,(pr m h n).j=j/\∀i,i<n->ow[(pr m h i).j]? ≠some none
 lt:∀ (j x:Nat),ow[j]? =some (some x)->x<dn.length
 un:∀ (j j' x:Nat),ow[j]? =some (some x)->ow[j']? =some (some x)->j=j'
theorem LI.nil(m:Nat):LI m (Array.replicate (m+1) none) []:=by
 refine⟨by simp,λx h e=>by simp at e,λj x e=> ?_,λj j' x e _=> ?_⟩
 ·rw[aAF] at e
  split at e<;>simp at e
 ·rw[aAF] at e
  split at e<;>simp at e
theorem LI.free{m:Nat}{ow:Array (Option Nat)}{dn:List Int}(L:LI m ow dn)(hl:dn.length<=m):∃j,j<m+1/\ow[j]? =some none:=by
 refine Classical.byContradiction λhn=> ?_
 have all:∀j,j<m+1->∃x,ow[j]? =some (some x):=λj hj=>by
  have hs:j<ow.size:=by rw[L.sz];exact hj
  cases h:ow[j]? with
  |none=>rw[Array.getElem?_eq_none_iff] at h;omega
  |some o=>
   cases o with
   |none=>exact absurd ⟨j,hj,h⟩ hn
   |some x=>exact⟨x,rfl⟩
 have nd:((bO<|m+1).map λj=>((ow[j]?).getD none).getD 0).Nodup:=by rw[aAA,eC];refine List.Pairwise.imp_of_mem ?_ (aAA.mp<|pG (n:=m+1));intro a b ha hb hab hc;obtain⟨x,hx⟩:=all a<|bP.mp ha;obtain⟨y,hy⟩:=all b<|bP.mp hb;rw[hx,hy] at hc;have hc:x=y:=hc;subst hc;exact hab<|L.un a b x hx hy
 have sub:∀y∈(bO<|m+1).map (λj=>((ow[j]?).getD none).getD 0),y∈bO dn.length:=λy hy=>by obtain⟨j,hj,rfl⟩:=aE.mp hy;obtain⟨x,hx⟩:=all j<|bP.mp hj;rw[hx];exact bP.mpr<|L.lt j x hx
 have:=nd.length_le_of_subset sub;rw[aA,fQ,fQ] at this;omega
noncomputable def aQL(m:Nat)(acc:Option (Array (Option Nat)×Nat))(h:Int):Option (Array (Option Nat)×Nat):=do
 let (owner,k) <-acc
 let j <-kO.free m owner (iA m) (cH h%(m+1)) (cH h)
 pure (owner.setIfInBounds j<|some k,k+1)
theorem LI.step{m:Nat}(hm:okM m){ow:Array (Option Nat)}{dn:List Int}(L:LI m ow dn)(hl:dn.length<=m)(h:Int):∃ow',aQL m (some (ow,dn.length)) h=some (ow',(dn++[h]).length)/\LI m ow' (dn++[h]):=by
 obtain⟨e,he,h0⟩:=L.free hl;obtain⟨k,n,k1,k2,k3,k4⟩:=aCb hm h he;obtain⟨j,n',f1,f2,f3,f4,f5⟩:=aAh (ow:=ow) h (iA m) 0 0 k (by show at0 _ _ _=_;rw[aGo,aIc];rfl) (bW _) (by unfold iA;omega) (by rw[k2];exact emp_iff.mpr h0);rw[aGo,aIc] at f1;have hj:=emp_iff.mp f4
 have hjs:j<ow.size:=by
  rcases uZ j ow.size with z|z
  ·exact z
  ·rw[pN z] at hj;cases hj
 have g:∀i,(ow.setIfInBounds j<|some dn.length)[i]? =if j=i then some (some dn.length) else ow[i]? :=λi=>by
  rw[yW]
  by_cases z:j=i
  ·rw[if_pos z,if_pos z,if_pos<|z▸hjs]
  ·rw[if_neg z,if_neg z]
 refine⟨ow.setIfInBounds j<|some dn.length, ?_,by simpa using L.sz,λx h' hx=> ?_,λi x hi=> ?_,λi i' x hi hi'=> ?_⟩
 ·unfold aQL;have f1':kO.free m ow (iA m) (cH h%(m+1)) (cH h)=some j:=f1;simp only[Option.bind_eq_bind,Option.bind_some,f1',Option.pure_def];simp
 ·rcases uZ x dn.length with z|z
  ·rw[gK z] at hx;obtain⟨i,i1,n1,i2,i3⟩:=L.at_ x h' hx;refine⟨i, ?_,n1,i2,λa ha=> ?_⟩
   ·rw[g,if_neg λq=>by rw[q] at hj;rw[hj] at i1;cases i1];exact i1
   ·rw[g]
    split
    ·simp
    ·exact i3 a ha
  ·rw[gF z] at hx
   have:x=dn.length:=by
    rcases eE z with q|q
    ·rw[eR<|by simp;omega] at hx;cases hx
    ·exact q.symm
   subst this;rw[qB] at hx;have:h=h':=by simpa using hx
   subst this;refine⟨j,by rw[g,if_pos rfl],n',f3,λa ha=> ?_⟩;rw[g]
   split
   ·simp
   ·exact λq=>f5 a (bW _) ha<|emp_iff.mpr q
 ·rw[g] at hi;rw[aQ]
  split at hi
  ·have:dn.length=x:=by simpa using hi
   simp;omega
  ·have:=L.lt i x hi;omega
 ·rw[g] at hi hi'
  split at hi
  ·rename_i q1
   split at hi'
   ·rename_i q2;rw[<-q1,<-q2]
   ·have e1:dn.length=x:=by simpa using hi
    have:=L.lt i' x hi';omega
  ·split at hi'
   ·have e1:dn.length=x:=by simpa using hi'
    have:=L.lt i x hi;omega
   ·exact L.un i i' x hi hi'
noncomputable def gT(hs:List Key->Int)(r:kJ):Int×BH:=(hs r.2.1,Value.ref r.2.2)
noncomputable abbrev tK(prog:AD)(w:AL):=Aq<|fJ prog w
theorem aAw{d:Nat}{v:BH}(h:Av v=true):ofAClassStatement d v=pure false:=by cases v<;>first|rfl|(cases d<;>rfl)|(simp[Av] at h)
theorem aIB{x:BJ}{k:List Key}{Q:Bool->BI->Prop}(hx:(tK prog w).is s.heap k x)(h:Q false s):AI (AG prog w) A (ofAClassStatement 8<|.ref x) Q E s:=by
 have hk:IsTupleKey (fJ prog w) s.heap k x:=hx;have hT:=hk.typeIs;obtain⟨o,items,n,ho,hc,hd,hi⟩:=hk;unfold ofAClassStatement;refine AA<|wpAny_typeOf hT ?_;dsimp only;refine AA<|AB ?_;simp only[jG,aX,if_false];refine AA<|wpAny_seqItems ho hd ?_;dsimp only;refine AA ?_;rw[<-aGy];refine wpAny_forIn_list _ (λrest r s'=>r.1=none/\s'=s/\∀v∈rest,Av v=true) _ ?_ ?_ _ _ ⟨rfl,rfl,hi.byValue⟩
 ·rintro v rest r s' ⟨hr,rfl,hall⟩;rw[aAw<|hall v aH];refine AA<|AB ?_;simp only[aX,if_false];exact AB ⟨rfl,rfl,λu hu'=>hall u<|aI _ hu'⟩
 ·rintro⟨r1,r2⟩ s' ⟨hr,rfl,_⟩;simp only at hr;subst hr;exact AB h
theorem aPi{x:BJ}{k:List Key}{stored:List BH}{Q:Bool->BI->Prop}(hx:(tK prog w).is s.heap k x)(hs:∀v∈stored,∃k' b,v=.ref b/\(tK prog w).is s.heap k' b)(h:Q false s):AI (AG prog w) A (searchCouldBeSeen (.ref x) stored) Q E s:=by
 unfold searchCouldBeSeen;refine AA ?_;refine wpAny_forIn_list _ (λrest r s'=>r.1=none/\s'=s/\∀v∈rest,∃k' b,v=.ref b/\(tK prog w).is s.heap k' b) _ ?_ ?_ _ _ ⟨rfl,rfl,hs⟩
 ·rintro v rest r s' ⟨hr,rfl,hall⟩;obtain⟨k',b,rfl,hb⟩:=hall v aH;have nx:∀u∈rest,∃k' b,u=.ref b/\(tK prog w).is s'.heap k' b:=λu hu=>hall u (aI _ hu)
  dsimp only
  by_cases hxb:(x==b)=true
  ·rw[hxb];simp only[aDq,if_true];exact AB ⟨rfl,rfl,nx⟩
  ·have hxb:(x==b)=false:=by simpa using hxb
   rw[hxb];simp only[Av,lF,Bool.or_self,aX,if_false];refine AA<|(tK prog w).quiet hx ?_;simp only[jG,aX,if_false];refine AA<|(tK prog w).quiet hb ?_;simp only[jG,aX,if_false];refine AA<|aIB hx ?_;simp only[aX,if_false];refine AA<|aIB hb ?_;simp only[aX,if_false];exact AB ⟨rfl,rfl,nx⟩
 ·rintro⟨r1,r2⟩ s' ⟨hr,rfl,_⟩;simp only at hr;subst hr;exact AB h
theorem aAL{a x:BJ}{o:BM}{kx:List Key}{T:List kJ}{t:BP}{es:Array (Int×BH)}{ep:Nat}{Q:SetFound->BI->Prop}(hu:A.units<AQ)(ho:s.heap.get? a=some o)(hd:o.data=.set es ep t)(X:TabT (tK prog w).hash t es T)(fit:t.fits es.size=true)
  (hx:(tK prog w).is s.heap kx x) (hk:∀r∈T,(tK prog w).is s.heap r.2.1 r.2.2) {e:Nat} (he:(pr t.mask ((tK prog w).hash kx) e).j∉T.map (·.1)) (hl:∀i,i<e->(pr t.mask ((tK prog w).hash kx) i).j∈T.map (·.1)) (h10:e<10*iA t.mask)
  (q1:kx∈T.map (·.2.1)->Q (.there none) s) (q2:kx∉T.map (·.2.1)->Q (.free (pr t.mask ((tK prog w).hash kx) e).j false) s):∀ (fuel n:Nat) (stand:Option SetTable.Probe),stand.getD (t.probeStart<|(tK prog w).hash kx)=pr t.mask ((tK prog w).hash kx) n->n<=e->e-n<fuel->(∀r∈T,r.2.1=kx->∃i,n<=i/\i<e/\(pr t.mask ((tK prog w).hash kx) i).j=r.1)->
   AI (AG prog w) A (setSearchFrom a (.ref x) ((tK prog w).hash kx) true fuel stand) Q E s
 |0,n,stand,e1,h1,h2,h3=>by omega
 |fuel+1,n,stand,e1,h1,h2,h3=>by
  unfold setSearchFrom;refine AA<|AX ho hd fit ?_;dsimp only
  have gw:t.gaveWay=false:=by unfold SetTable.gaveWay;rw[show t.mask=7 from X.om];rfl
  rw[gw];simp only[aX,if_false]
  have hAt:∀B r C,T=B++r::C->es[B.length]? =some ((tK prog w).hash r.2.1,Value.ref r.2.2):=λB r C q=>by rw[X.en,q];simp
  rw[e1];generalize hf:t.probe _ ((tK prog w).hash kx) (pr t.mask ((tK prog w).hash kx) n)=met;obtain⟨F,hF,hf⟩:∃F:Nat->Int,(∀i,F i=((es[i]?).map (·.1)).getD 0)/\t.probe F ((tK prog w).hash kx) (pr t.mask ((tK prog w).hash kx) n)=met:=⟨_,λi=>rfl,hf⟩;unfold iN at hf
  obtain ⟨k,k1,k2,k3,k4⟩:=aEl X (hashAt:=F) (fun B r C q=>by
   have:=hAt B r C q;rw[hF,this]
   rfl) ((tK prog w).hash kx) (10*iA t.mask) n e h1 (by omega) he
  rcases k4 with⟨hm,hg⟩|⟨B,r,C,eT,hj,hh,hg⟩
  ·rw[hg] at hf;subst hf;dsimp only
   have ke:k=e:=by
    rcases eE k2 with z|z
    ·exact absurd (hl k z) hm
    ·exact z
   subst ke;refine AB<|q2 λhc=> ?_;obtain⟨r,hr,er⟩:=aE.mp hc;obtain⟨i,i1,i2,i3⟩:=h3 r hr er;exact(k3 i i1 i2).2 r hr i3.symm (by rw[er])
  ·rw[hg] at hf;subst hf;dsimp only;have hr:r∈T:=by rw[eT];simp
   have hei:=hAt B r C eT;have hsl:=X.slot_live eT;rw[hj] at hsl;have sm:t.sameMemory t.moves t.mask=some true:=by unfold SetTable.sameMemory;simp
   have hke:k<e:=by
    rcases eE k2 with z|z
    ·exact z
    ·subst z;exact absurd (hj▸cP hr) he
   cases hled:t.led with
   |true=>
    simp only[jG,aX,if_false];rw[hei];dsimp only;refine AA (AV<|(tK prog w).eqBool hu (hk r hr) hx ?_);refine AA<|AX ho hd fit ?_;dsimp only
    by_cases hkx:r.2.1=kx
    ·rw[decide_eq_true hkx];simp only[aOB,if_true];exact AB (q1<|hkx▸cP hr)
    ·rw[decide_eq_false hkx];simp only[nD,aX,if_false];rw[sm];dsimp only;rw[if_pos rfl,hsl];dsimp only;rw[hei];dsimp only;refine AA<|wpAny_isSame_ref_self ?_;refine AA<|AB ?_;simp only[if_true];refine aAL hu ho hd X fit hx hk he hl h10 q1 q2 fuel (k+1) (some _) rfl (by omega) (by omega) λr' hr' e'=> ?_
     obtain⟨i,i1,i2,i3⟩:=h3 r' hr' e';refine⟨i, ?_,i2,i3⟩
     rcases uZ i k with z|z
     ·exact absurd (by rw[e'])<|(k3 i i1 z).2 r' hr' i3.symm
     ·rcases eE z with z|z
      ·exact z
      ·exfalso;subst z;have:r'=r:=X.same_row hr' hr<|i3.symm.trans hj.symm;rw[this] at e';exact hkx e'
   |false=>
    simp only[qZ,if_true];refine AA<|aPi hx (λv hv=> ?_) ?_
    ·obtain⟨p,hp,rfl⟩:=aE.mp hv
     have hp':p∈es.toList:=by have:=qS.mp hp;exact qS.mpr (Array.mem_filter.mp this).1
     rw[X.en] at hp';obtain⟨r2,h2',rfl⟩:=aE.mp (by simpa using hp':p∈T.map λr=>((tK prog w).hash r.2.1,Value.ref r.2.2));exact⟨r2.2.1,r2.2.2,rfl,hk r2 h2'⟩
    simp only[aX,if_false];rw[hei];dsimp only;refine AA (AV<|(tK prog w).eqBool hu (hk r hr) hx ?_);refine AA<|AX ho hd fit ?_;dsimp only
    by_cases hkx:r.2.1=kx
    ·rw[decide_eq_true hkx];simp only[aOB,if_true];exact AB (q1<|hkx▸cP hr)
    ·rw[decide_eq_false hkx];simp only[nD,aX,if_false];rw[sm];dsimp only;rw[if_pos rfl,hsl];dsimp only;rw[hei];dsimp only;refine AA<|wpAny_isSame_ref_self ?_;refine AA<|AB ?_;simp only[if_true];refine aAL hu ho hd X fit hx hk he hl h10 q1 q2 fuel (k+1) (some _) rfl (by omega) (by omega) λr' hr' e'=> ?_
     obtain⟨i,i1,i2,i3⟩:=h3 r' hr' e';refine⟨i, ?_,i2,i3⟩
     rcases uZ i k with z|z
     ·exact absurd (by rw[e'])<|(k3 i i1 z).2 r' hr' i3.symm
     ·rcases eE z with z|z
      ·exact z
      ·exfalso;subst z;have:r'=r:=X.same_row hr' hr<|i3.symm.trans hj.symm;rw[this] at e';exact hkx e'
noncomputable def aPa:BH->Bool
 |.none | .bool _ | .int .. =>true
 |.float bits _=>(Float64.hash? bits).isSome
 |_=>false
theorem aCT(d:Nat){v:BH}(h:Av v=true):hashByValue d v=pure (aPa v):=by cases v<;>first|rfl|(cases d<;>rfl)|(simp[Av] at h)
theorem aFR{ks:List Key}{vs:List BH}(h:ItemsAre (fJ prog w) ks vs):(∀k∈ks,∃i,k=Sum.inl i)->∀v∈vs,∃i t,v=.int i t:=by
 induction h with
 |nil=>intro _ v hv;simp at hv
 |@cons k v ks vs h1 _ ih=>
  intro hk u hu
  rcases aW.mp hu with rfl|hu
  ·obtain⟨i,rfl⟩:=hk k aH
   rcases hW (show xC (Sum.inl i) u=true from h1) with⟨i',t,e,rfl⟩|⟨x,t,e,_⟩
   ·exact⟨i',t,rfl⟩
   ·cases e
  ·exact ih (λz hz=>hk z<|aI _ hz) u hu
theorem hbvT{x:BJ}{k:List Key}{Q:Bool->BI->Prop}(hx:(tK prog w).is s.heap k x)(h:∀b,((∀z∈k,∃i,z=Sum.inl i)->b=true)->Q b s):AI (AG prog w) A (hashByValue 8<|.ref x) Q E s:=by
 have hk:IsTupleKey (fJ prog w) s.heap k x:=hx;have hT:=hk.typeIs;obtain⟨o,items,n,ho,hc,hd,hi⟩:=hk;unfold hashByValue;refine AA<|wpAny_specialOf hT F.slot_tuple_hash.lookup ?_;dsimp only;refine AA<|wpAny_seqItems ho hd ?_;dsimp only[Option.getD];refine AA ?_;rw[<-aGy];have h0:(∀z∈k,∃i,z=Sum.inl i)->∀v∈items.toList,∃i t,v=Value.int i t:=aFR hi;refine wpAny_forIn_list _ (λrest r s'=>s'=s/\r.1=none/\(∀v∈rest,Av v=true)/\((∀z∈k,∃i,z=Sum.inl i)->∀v∈rest,∃i t,v=Value.int i t)) _ ?_ ?_ _ _ ⟨rfl,rfl,hi.byValue,h0⟩
 ·rintro v rest r s' ⟨rfl,hr,hall,hint⟩;have hb:=aCT 7 (hall v aH)
  have hb2:(∀z∈k,∃i,z=Sum.inl i)->aPa v=true:=λz=>by obtain⟨i,t,rfl⟩:=hint z v aH;rfl
  generalize aPa v=b at hb hb2;rw[hb];refine AA<|AB ?_;cases b with
  |true=>simp only[jG,aX,if_false];exact AB ⟨rfl,rfl,λu hu'=>hall u<|aI _ hu',λz u hu'=>hint z u<|aI _ hu'⟩
  |false=>simp only[qZ,if_true];exact AB (AB<|h _ hb2)
 ·rintro⟨r1,r2⟩ s' ⟨rfl,hr,_⟩;simp only at hr;subst hr;exact AB<|h _ λ_=>rfl
def SzT(m n:Nat):Prop:=m=7/\n<=4
theorem SzT.fit{m:Nat}(z:SzT m n)(om:okM m)(h:n<=3):n<=m:=by obtain⟨rfl,_⟩:=z;omega
def SetT(prog:AD)(w:AL)(ip:Bool)(o:BM)(T:List kJ):Prop:=∃ (es:Array (Int×BH)) (ep:Nat) (t:BP),o={cls:=.type "set",dict:=none,data:=.set es ep t}/\TabT (tK prog w).hash t es T/\SzT t.mask T.length/\t.led= !byT w/\(ip=true->t.plain=true)
theorem TabT.size(X:TabT hs t es T):es.size=T.length:=by rw[X.en];simp
theorem TabT.fill(X:TabT hs t es T):t.fill=T.length:=by unfold SetTable.fill;rw[X.pl,X.du];simp
theorem TabT.fit(X:TabT hs t es T)(hl:T.length<=t.mask):t.fits es.size=true:=by
 have e1:=X.size;have e2:=X.fill;have e3:t.place.size=T.length:=by rw[X.pl];simp
 unfold SetTable.fits;simp only[bC,beq_iff_eq,decide_eq_true_eq];exact⟨by rw[e3,e1],by rw[e2];exact hl⟩
theorem aPQ{a x:BJ}{o:BM}{kx:List Key}{ip:Bool}{Q:Bool->BI->Prop}(hip:ip=true->∀z∈kx,∃i,z=Sum.inl i)(hu:A.units<AQ)(hl:T.length<=3)(ho:s.heap.get? a=some o)(S:SetT prog w ip o T)(hk:∀r∈T,(tK prog w).is s.heap r.2.1 r.2.2)(hx:(tK prog w).is s.heap kx x)
  (h:∀ (b:Bool) (h':BL) (o':BM) (tk:Nat) (T':List kJ),Heap.SameBut a s.heap h'->h'.get? a=some o'->SetT prog w ip o' T'->(∀p,p∈T'.map (·.2)->p=(kx,x)\/p∈T.map (·.2))->(∀k,k∈T'.map (·.2.1)↔k=kx\/k∈T.map (·.2.1))->Q b {s with heap:=h',toks:=tk}):AI (AG prog w) A (setAddHashed a (.ref x)<|(tK prog w).hash kx) Q E s:=by
 have S0:=S;obtain⟨es,ep,t,rfl,X,h7,hled,hpl0⟩:=S
 have lm:T.length<=t.mask:=by have:=h7.1;omega
 have fit:=X.fit lm;generalize htk:s.toks=tk;unfold setAddHashed setAddHashedIn;have es0:s={s with toks:=tk}:=by rw[<-htk]
 rw[es0];refine AV (AA<|AX (s:={s with toks:=tk}) ho rfl fit ?_);dsimp only;have bs:byScan (.ref x) es=false:=rfl;rw[bs];simp only[aX,if_false];obtain⟨e,e1,e2,e3⟩:=X.room lm<|(tK prog w).hash kx;unfold setSearch;refine AA<|aAL (s:={s with toks:=tk}) hu ho rfl X fit hx hk e2 e3 e1 (λhm=> ?_) (λhm=> ?_) 100000 0 none rfl (bW _) ?_ λr hr er=> ?_
 ·dsimp only;refine AB (h false s.heap _ _ T (Heap.SameBut.refl a s.heap) ho S0 (λp hp=>.inr hp) λk=>⟨λz=>.inr z,λz=> ?_⟩)
  rcases z with rfl|z
  ·exact hm
  ·exact z
 ·dsimp only;refine AA<|AX (s:={s with toks:=tk}) ho rfl fit ?_;dsimp only;generalize hj:(pr t.mask ((tK prog w).hash kx) e).j=j;rw[hj] at e2;have jm:j<=t.mask:=hj▸(aQJ (m:=t.mask) ((tK prog w).hash kx) e).1
  rcases hp:t.put j with⟨t1,p⟩
  have fin:∀b:Bool,(ip=true→b=true)→AI (AG prog w) A (do
    storeSet a (jD es p ((tK prog w).hash kx,.ref x)) {t1 with plain:=b}
    if(!false&&tR {t1 with plain:=b})=true then setRelay a (SetTable.grown<|es.size+1)
    return true) Q E {s with toks:=tk}:=λb hbt=>by
   obtain⟨B,C,eT,X2⟩:=X.put (a:=x) e2 jm hm ⟨e,hj,e3⟩ b;rw[hp] at X2;generalize hT2:B++(j,kx,x)::C=T2 at X2
   have mk1:({t1 with plain:=b}:BP).mask=t.mask:=by
    have:t1=(t.put j).1:=by rw[hp]
    rw[this];rfl
   have ld2:({t1 with plain:=b}:BP).led= !byT w:=by
    have:t1=(t.put j).1:=by rw[hp]
    rw[this];exact hled
   have pn2:ip=true->({t1 with plain:=b}:BP).plain=true:=hbt;generalize ({t1 with plain:=b}:BP)=t2 at X2 mk1 ld2 pn2 ⊢;dsimp only at X2;generalize hes2:jD es p ((tK prog w).hash kx,Value.ref x)=es2 at X2 ⊢
   have l2:T2.length=T.length+1:=by rw[<-hT2,eT];simp;omega
   have rw1:∀p,p∈T2.map (·.2)->p=(kx,x)\/p∈T.map (·.2):=λp hp=>by
    rw[<-hT2] at hp;rw[eT];simp only[aJ,aZ,aU,aW] at hp ⊢
    rcases hp with z|z|z
    ·exact .inr<|.inl z
    ·exact .inl z
    ·exact .inr<|.inr z
   have kw1:∀k,k∈T2.map (·.2.1)↔k=kx\/k∈T.map (·.2.1):=λk=>by
    rw[<-hT2,eT];simp only[aJ,aZ,aU,aW]
    constructor
    ·rintro(z|z|z)
     ·exact .inr<|.inl z
     ·exact .inl z
     ·exact .inr<|.inr z
    ·rintro(z|z|z)
     ·exact .inr<|.inl z
     ·exact .inl z
     ·exact .inr<|.inr z
   refine AA (wpAny_storeSet_of (s:={s with toks:=tk}) ho rfl ?_<|by rw[X2.size,Ah];omega);have g1:=fV (Obj.putSet es2 t2) ho (by rw[putSet_of _ _ rfl];rfl);rw[putSet_of _ _ rfl] at g1
   have tf:tR t2=decide (T2.length*5>=t.mask*3):=by unfold tR;rw[X2.fill,mk1]
   rw[tf]
   have hc:¬ (T2.length*5>=t.mask*3):=by rw[h7.1];omega
   ·rw[decide_eq_false hc];simp only[nD,aX,if_false];refine AA (AB<|AB ?_);refine h true _ _ tk T2 (Heap.SameBut.update s.heap a _) g1 ⟨es2,_,t2,rfl,X2,⟨by rw[mk1];exact h7.1,by omega⟩,ld2,pn2⟩ rw1 kw1
  cases hpl:t1.plain with
  |true=>
   simp only[hpl,if_true];refine AA<|hbvT (s:={s with toks:=tk}) hx λb hb=> ?_;cases b with
   |true=>
    simp only[if_true];have:=fin true λ_=>rfl
    rw[show({t1 with plain:=true}:BP)=t1 by rw[<-hpl]] at this;exact this
   |false=>simp only[aX,if_false];exact fin false λz=>hb<|hip z
  |false=>
   simp only[hpl,aX,if_false];refine AA<|AB ?_;simp only[if_true]
   have:=fin false λz=>by
    have e:t1.plain=t.plain:=by
     have:t1=(t.put j).1:=by rw[hp]
     rw[this];rfl
    rw[e,hpl0 z] at hpl;cases hpl
   rw[show({t1 with plain:=false}:BP)=t1 by rw[<-hpl]] at this;exact this
 ·have:iA t.mask<=1000:=by rw[show t.mask=7 from X.om];decide
  omega
 ·obtain⟨n,n1,n2⟩:=X.ahead hr (e:=e) (by rw[er];exact e2);rw[er] at n2;exact⟨n,bW _,n1,n2⟩
theorem addT{a x:BJ}{o:BM}{kx:List Key}{ip:Bool}{Q:Bool->BI->Prop}(hip:ip=true->∀z∈kx,∃i,z=Sum.inl i)(hu:A.units<AQ)(hl:T.length<=3)(ho:s.heap.get? a=some o)(S:SetT prog w ip o T)(hk:∀r∈T,(tK prog w).is s.heap r.2.1 r.2.2)(hx:(tK prog w).is s.heap kx x)
  (h:∀ (b:Bool) (h':BL) (o':BM) (tk:Nat) (T':List kJ),Heap.SameBut a s.heap h'->h'.get? a=some o'->SetT prog w ip o' T'->(∀p,p∈T'.map (·.2)->p=(kx,x)\/p∈T.map (·.2))->(∀k,k∈T'.map (·.2.1)↔k=kx\/k∈T.map (·.2.1))->Q b {s with heap:=h',toks:=tk}):AI (AG prog w) A (setAdd a<|.ref x) Q E s:=by
 unfold setAdd;refine AV (AA<|(tK prog w).pyHash hu hx ?_);exact aPQ (s:={s with toks:=s.toks+(tK prog w).draws kx}) hip hu hl ho S hk hx h
theorem aKx{vs:List (List Key)}(nd:(T.map (·.2.1)).Nodup)(h:∀k,k∈T.map (·.2.1)↔k∈vs)(hn:vs.length<=n):T.length<=n:=by
 have:=nd.length_le_of_subset λk hk=>(h k).mp hk
 rw[aA] at this;omega
theorem xV{h h':BL}{x:BJ}{k:List Key}(hx:(tK prog w).is h k x)(kp:∀o,h.get? x=some o->h'.get? x=some o):(tK prog w).is h' k x:=by obtain⟨o,items,n,ho,hc,hd,hi⟩:=(show IsTupleKey (fJ prog w) h k x from hx);exact(show IsTupleKey (fJ prog w) h' k x from⟨o,items,n,kp _ ho,hc,hd,hi⟩)
theorem SetT.nd{ip:Bool}{o:BM}(S:SetT prog w ip o T):(T.map (·.2.1)).Nodup:=by obtain⟨es,ep,t,_,X,_,_,_⟩:=S;exact X.kn
theorem aPZ{R:Result->BI->Prop}{S:BJ}{fp wr:List BJ}{P:Nat->BH->Prop}{St:Nat->BL->Prop}(hu:A.in1.units<AQ)(W:Walks prog w A.in1 I fp wr n P St)(hSf:S∉fp)(vs:List (List Key)){ip:Bool}(hip:ip=true->∀k∈vs,∀z∈k,∃i,z=Sum.inl i)(hn:vs.length=n)(h16:n<=3)(h0:BL)
  (hval:∀i v,P i v->∃x,v=.ref x/\x≠S/\x∉wr/\(tK prog w).is h0 (vs.getD i []) x):∀ (m i:Nat) (s:BI) (o:BM) (T:List kJ),n-i=m->i<=n->St i s.heap->s.heap.get? S=some o->SetT prog w ip o T->(∀k,k∈T.map (·.2.1)↔k∈vs.take i)->(∀p∈T.map (·.2),p.2≠S/\p.2∉wr/\(tK prog w).is h0 p.1 p.2/\∃i,P i (.ref p.2)/\vs.getD i []=p.1)->(∀b x,b≠S->b∉wr->h0.get? b=some x->s.heap.get? b=some x)->
   (∀h' tk o' T',(∀b x,b≠S->b∉wr->s.heap.get? b=some x->h'.get? b=some x)->h'.get? S=some o'->SetT prog w ip o' T'->(∀k,k∈T'.map (·.2.1)↔k∈vs)->(∀p∈T'.map (·.2),∃i,P i (.ref p.2)/\vs.getD i []=p.1)->R (.ok<|.ret .none) {s with heap:=h',toks:=tk})->
   codeAny (AG prog w) A (.builtin "set.update.loop" ⟨[.ref S,.ref I],[]⟩) R s:=by
 have hSw:S∉wr:=λh=>hSf<|W.sub _ h
 intro m
 induction m with
 |zero=>
  intro i s o T hm hi st ho sm kt rt k0 k;have e:i=n:=by omega
  subst e;refine Ai F.entry_set_update_loop ?_;rw[Around.under_plainId F.plain_set_update_loop];refine AA<|W.done s _ _ st λh' tk kp=>AB ?_;rw[<-hn,eQ] at kt;exact k h' tk o T (λb x _ hb g=>kp b x hb g) (kp S o hSw ho) sm kt λp hp=>(rt p hp).2.2.2
 |succ m ih=>
  intro i s o T hm hi st ho sm kt rt k0 k;have hlt:i<n:=by omega
  have hlt':i<vs.length:=by omega
  refine Ai F.entry_set_update_loop ?_;rw[Around.under_plainId F.plain_set_update_loop];refine AA<|W.item i s _ _ hlt st λv h' tk hP st' kp=> ?_;obtain⟨x,rfl,xS,xw,hx⟩:=hval i v hP;have vi:vs.getD i []=vs[i]:=by simp[bX,hlt']
  have tk1:vs.take (i+1)=vs.take i++[vs.getD i []]:=by rw[fO,vi];simp[hlt']
  have k1:∀b x,b≠S->b∉wr->h0.get? b=some x->h'.get? b=some x:=λb x h1 h2 g=>kp b x h2<|k0 b x h1 h2 g
  have tl:T.length<=3:=aKx sm.nd kt (by rw[cO];omega);refine AA (AV<|addT (s:={s with heap:=h',toks:=tk}) (λz=>hip z _<|by rw[vi];exact eJ hlt') hu tl (kp S o hSw ho) sm (λr hr=> ?_) (xV hx λo g=>k1 x o xS xw g) λb h2 o2 tk2 T2 sb g2 sm2 rt2 kt2=> ?_)
  ·obtain⟨q1,q2,q3,_⟩:=rt r.2<|cP hr;exact xV q3 λo g=>k1 _ o q1 q2 g
  ·refine AB ⟨Az F.plain_set_update_loop _,ih (i+1) _ o2 T2 (by omega) hlt (W.frame _ _ _ st' λb hb x g=> ?_) g2 sm2 (λk=> ?_) (λp hp=> ?_) (λb x h1 h3 g=> ?_) λh3 tk3 o3 T3 kp3 g3 sm4 kt4 rt4=> ?_⟩
   ·rw[sb.2 b λz=>hSf<|z▸hb];exact g
   ·rw[kt2,kt,tk1,aU,aN];exact⟨λz=>z.symm,λz=>z.symm⟩
   ·rcases rt2 p hp with rfl|z
    ·exact⟨xS,xw,hx,i,hP,rfl⟩
    ·exact rt p z
   ·rw[sb.2 b h1];exact k1 b x h1 h3 g
   ·refine k h3 tk3 o3 T3 (λb x h1 h2 g=>kp3 b x h1 h2 ?_) g3 sm4 kt4 rt4;rw[sb.2 b h1];exact kp b x h2 g
theorem aPn{ip:Bool}:SetT prog w ip (aGE w) []:=⟨#[],0,aOK (!byT w) [],rfl,⟨rfl,rfl,rfl,rfl,List.Pairwise.nil,λr h=>(by cases h),λr h=>(by cases h),eV⟩,⟨rfl,bW _⟩,rfl,λ_=>rfl⟩
theorem aPq{R:Result->BI->Prop}{S l:BJ}{items:Array BH}(hu:A.in1.in1.units<AQ)(vs:List (List Key)){ip:Bool}(hip:ip=true->∀k∈vs,∀z∈k,∃i,z=Sum.inl i)(hn:vs.length=items.size)(h16:items.size<=3)(hi:∀ (i:Nat) (v:BH),items[i]? =some v->∃x,v=.ref x/\x≠S/\(tK prog w).is s.heap (vs.getD i []) x)(hh:A.handled=none)
  (ho:s.heap.get? S=some (aGE w)) (ht:s.heap.IsList l items)
  (k:∀h' tk o' T',(∀b x,b≠S->s.heap.get? b=some x->h'.get? b=some x)->h'.get? S=some o'->SetT prog w ip o' T'->(∀k,k∈T'.map (·.2.1)↔k∈vs)->(∀p∈T'.map (·.2),∃i:Nat,items[i]? =some (.ref p.2)/\vs.getD i []=p.1)->R (.ok<|.ret .none) {s with heap:=h',toks:=tk}):
  AI (AG prog w) A.in1 (Builtin.«set.__init__» ⟨[.ref S,.ref l],[]⟩) (λfin s'=>match fin with | .done f=>R (.ok f) s' | .again c'=>c'.quiet=true/\codeAny (AG prog w) A c' R s') (λe s'=>R (.error e) s') s:=by
 obtain⟨ol,hol,hcl,nl,hdl⟩:=id ht;obtain⟨ocls,odict,odata,oslots⟩:=ol;simp only at hcl hdl;subst hcl hdl;have q1:=aBl;have q2:=aCH;have q3:(Value.type "list"==Value.type "dict")=false:=by decide
 have hT:Shared.TypeIs s (.ref S) "set":=⟨_,ho,rfl⟩
 have hSl:S≠l:=λz=>by rw[z,hol] at ho;have q:(Value.type "list")=Value.type "set":=congrArg Obj.cls<|cA.inj ho;exact absurd q<|by decide
 unfold Builtin.«set.__init__» noKeywords Builtin.Frozenset.updateFrom;generalize pI:pyIter=PI
 wp_walk
 subst pI;refine At (show s.heap.IsList l items from ht) (AA<|wpAny_runValue ?_);have lS:l<s.heap.objs.size:=aS hol;have sS:S<s.heap.objs.size:=aS ho;refine aPZ (n:=items.size) (P:=λi v=>items[i]? =some v) hu (Walks.list (A:=A.in1.in1) (by simpa using hh) s.heap.objs.size l (bS lS) items) (λz=> ?_) vs hip hn h16 s.heap (λi v hv=> ?_) (items.size-0) 0 _ (aGE w) [] rfl (bW _) ⟨⟨_,bG _ rfl,rfl,rfl⟩,ht.push _⟩ (aD _ ho) aPn (λk=>by simp) (λp hp=>by cases hp) (λb x h1 h2 g=>aD _ g) λh' tk o' T' kp g sm kt rt=> ?_
 ·rcases aW.mp z with z|z
  ·exact bS sS z
  ·exact hSl (by simpa using z)
 ·obtain⟨x,e,xS,hx⟩:=hi i v hv;obtain⟨o,_,_,hxo,_⟩:=(show IsTupleKey (fJ prog w) s.heap _ x from hx);exact⟨x,e,xS,λz=>absurd (aS hxo) (by rw[show x=s.heap.objs.size by simpa using z];exact dU _),hx⟩
 ·refine AB (AB<|k h' tk o' T' (λb x h1 g=>kp b x h1 (λz=> ?_)<|aD _ g) g sm kt rt);have z:b=s.heap.objs.size:=by simpa using z
  exact absurd (aS g) (by rw[z];exact dU _)
theorem aPE{Q:BH->BI->Prop}{l:BJ}{items:Array BH}(hu:A.units+8<AQ)(vs:List (List Key)){ip:Bool}(hip:ip=true->∀k∈vs,∀z∈k,∃i,z=Sum.inl i)(hn:vs.length=items.size)(h16:items.size<=3)(hi:∀ (i:Nat) (v:BH),items[i]? =some v->∃x,v=.ref x/\(tK prog w).is s.heap (vs.getD i []) x)(hh:A.handled=none)(ht:s.heap.IsList l items)
  (k:∀h' tk o' T',(∀b x,s.heap.get? b=some x->h'.get? b=some x)->h'.get? s.heap.objs.size=some o'->SetT prog w ip o' T'->(∀k,k∈T'.map (·.2.1)↔k∈vs)->(∀p∈T'.map (·.2),∃i:Nat,items[i]? =some (.ref p.2)/\vs.getD i []=p.1)->Q (.ref s.heap.objs.size) {s with heap:=h',toks:=tk}):
  AI (AG prog w) A (call (.type "set") [.ref l]) Q E s:=by
 obtain⟨c,tl,m1⟩:=F.called_set.mro;have m2:=F.called_set.made;have m3:=F.called_set.sub;refine wpAny_call<|codeAny_of_tree (show AI _ _ (callAny (.type "set") _) _ _ _ from ?_);refine AB ⟨Code.quiet_builtin _<|by decide+kernel,Ai F.entry_type_call ?_⟩;rw[Around.under_plain (weight_type_call_type "set" [Value.ref l] []) rfl];have m4:=F.called_set.notType;have m5:=F.called_set.canCreate;have m6:=F.typeCall_set_1<|.ref l
 repeat (any_goals (first|assumption|wp_step))
 refine Aw (newK (.ref l) (E:=E) (Q₁:=λob s1=>ob=.ref s.heap.objs.size/\s1={s with heap:=s.heap.push (aGE w)}) ⟨rfl,rfl⟩) λr s1 hr=> ?_
 cases r with
 |error e=>exact hr
 |ok fl=>
  cases fl with
  |ret ob=>
   obtain⟨rfl,rfl⟩:=hr;have ho:(s.heap.push<|aGE w).get? s.heap.objs.size=some (aGE w):=bG _ rfl;have hT:Shared.TypeIs {s with heap:=s.heap.push (aGE w)} (.ref s.heap.objs.size) "set":=⟨_,ho,rfl⟩;have m7:=F.called_set.init.lookup;have m8:=F.called_set.init.bind<|.ref s.heap.objs.size
   repeat (any_goals (first|assumption|wp_step))
   refine Aw (codeAny_call_builtin (R:=wants (λr s2=>r=.none/\∃h' tk o' T',s2={s with heap:=h',toks:=tk}/\(∀b x,s.heap.get? b=some x->h'.get? b=some x)/\h'.get? s.heap.objs.size=some o'/\SetT prog w ip o' T'/\(∀k,k∈T'.map (·.2.1)↔k∈vs)/\(∀p∈T'.map (·.2),∃i:Nat,items[i]? =some (.ref p.2)/\vs.getD i []=p.1)) E) F.called_set.init.plain F.entry_set_init<|check_set_init_1 hT ?_) λr2 s2 hr2=> ?_
   ·refine aPq (s:={s with heap:=s.heap.push (aGE w)}) (by simp only[Around.in1];omega) vs hip hn h16 (λi v hv=> ?_) (by simpa using hh) ho (ht.push _) λh' tk o' T' kp g sm kt rt=> ?_
    ·obtain⟨x,e,hx⟩:=hi i v hv;obtain⟨o,_,_,hxo,_⟩:=(show IsTupleKey (fJ prog w) s.heap _ x from hx);exact⟨x,e,bS<|aS hxo,xV hx λo g=>aD _ g⟩
    ·exact⟨rfl,h',tk,o',T',rfl,λb x gx=>kp b x (bS<|aS gx)<|aD _ gx,g,sm,kt,rt⟩
   ·cases r2 with
    |error e=>exact hr2
    |ok fl2=>
     cases fl2 with
     |ret r=>
      obtain⟨rfl,h',tk,o',T',rfl,kp,g,sm,kt,rt⟩:=hr2
      repeat (any_goals (first|assumption|wp_step))
      exact k _ _ _ _ kp g sm kt rt
     |_=>exact hr2.elim
  |_=>exact hr.elim
structure TabU(hs:List Key->Int)(t:BP)(es:Array (Int×BH))(T:List kJ)(ds:List Nat):Prop where
 om:okM t.mask
 pl:t.place=(T.map (·.1)).toArray
 en:es=(T.map λr=>(hs r.2.1,Value.ref r.2.2)).toArray
 du:t.dummies=ds.toArray
 rs:(T.map (·.1)).Pairwise (·<·)
 dr:ds.Pairwise (·<·)
 dj:∀d∈ds,d∉T.map (·.1)
 lt:∀r∈T,r.1<=t.mask
 rc:∀r∈T,∃n,(pr t.mask (hs r.2.1) n).j=r.1/\∀i,i<n->(pr t.mask (hs r.2.1) i).j∈T.map (·.1)++ds
 kn:(T.map (·.2.1)).Nodup
theorem pA{α β:Type}{f:α->β}{l:List α}{l':List β}(h:l'.Perm (l.map f)):∃l2:List α,l2.Perm l/\l'=l2.map f:=by
 generalize hy:l.map f=y at h
 induction h generalizing l with
 |nil=>
  have:l=[]:=by simpa using hy
  subst this;exact⟨[],.refl _,rfl⟩
 |cons x p ih=>
  cases l with
  |nil=>simp at hy
  |cons a t=>simp only[aZ,aLF.injEq] at hy;obtain⟨l3,q1,q2⟩:=ih hy.2;exact⟨a::l3,q1.cons a,by rw[aZ,hy.1,q2]⟩
 |swap x y l0=>
  match l,hy with
  |a::b::t,hy=>simp only[aZ,aLF.injEq] at hy;exact⟨b::a::t,List.Perm.swap a b t,by rw[aZ,aZ,hy.1,hy.2.1,hy.2.2]⟩
  |[a],hy=>simp at hy
  |[],hy=>simp at hy
 |trans p1 p2 ih1 ih2=>obtain⟨l3,q1,q2⟩:=ih2 hy;obtain⟨l4,r1,r2⟩:=ih1 q2.symm;exact⟨l4,r1.trans q1,r2⟩
variable {a b:Expr}
noncomputable def mO(k:List Key):D:=.tup<|k.map kD
structure TOk(w:AL)(es:List (Int×BH))(t:BP)(ks:List Nat):Prop where
 fit:t.fits es.toArray.size=true
 pl:t.plain=true
 led:t.led= !byT w
 place:t.place=ks.toArray
 asc:ks.Pairwise (·<·)
 len:es.length=ks.length
noncomputable def soT(es:List (Int×BH))(ep:Nat)(t:BP):BM:={cls:=.type "set",dict:=none,data:=.set es.toArray ep t}
theorem aNz{ks:List Nat}(h:ks.Pairwise (·<·))(hb:byT w=false)(i:Nat)(hi:i<=ks.length):gM ks.toArray (stK w ks i)=i:=by
 have e:ks=ks.take i++ks.drop i:=(fU i ks).symm;have l1:(ks.take i).length=i:=by rw[cO];omega
 have g:gM (ks.take i++ks.drop i).toArray (stK w ks i)=(ks.take i).length:=by
  have pw:=jV.mp h;refine sV (λx hx=> ?_) λx hx=> ?_
  ·obtain⟨j,hj,rfl⟩:=dE hx;have hj2:j<i:=by omega
   cases i with
   |zero=>omega
   |succ i=>
    have st:stK w ks (i+1)=ks.getD i 0+1:=by unfold stK;rw[hb];rfl
    rw[st,aJp];have hi':i<ks.length:=by omega
    have eg:ks.getD i 0=ks[i]:=by simp[bX,hi']
    show ks[j]<ks.getD i 0+1;rw[eg]
    by_cases q:j=i
    ·subst q;omega
    ·have:=pw j i (by omega) hi' (by omega);omega
  ·obtain⟨j,hj,rfl⟩:=dE hx;rw[iC] at hj;cases i with
   |zero=>
    have st:stK w ks 0=0:=by unfold stK;rw[hb];rfl
    rw[st];exact bW _
   |succ i=>
    have st:stK w ks (i+1)=ks.getD i 0+1:=by unfold stK;rw[hb];rfl
    rw[st,List.getElem_drop];have hi':i<ks.length:=by omega
    have eg:ks.getD i 0=ks[i]:=by simp[bX,hi']
    show ks.getD i 0+1<=_;rw[eg];exact pw i (i+1+j) hi' (by omega)<|by omega
 rw[<-e,l1] at g;exact g
theorem aPu{S:BJ}{es:List (Int×BH)}{i:Nat}{ks:List Nat}{tb:BP}{Q:Option (BH×Nat)->BI->Prop}(hk:TOk w es tb ks)(ho:s.heap.get? S=some (soT es ep tb))(hi:i<=ks.length)(h:Q (((pK w S ep es)[i]?).map λe=>(e.2,stK w ks<|i+1)) s):
  AI (AG prog w) A (setNext S (stK w ks i) i ep) Q E s:=by
 unfold setNext;refine AA<|AX ho rfl (hk.fit) ?_;dsimp only;refine AA ?_;unfold setsByText;refine AA (BE<|AB ?_);show AI _ _ (if byT w=true then _ else _) _ _ _;cases hb:byT w with
 |true=>
  simp only[if_true,bne_self_eq_false,aX,if_false];refine AA ?_;unfold setWalk;refine AA<|AX ho rfl (hk.fit) ?_;dsimp only;refine AA ?_;unfold setsByText;refine AA (BE<|AB ?_);show AI _ _ (if byT w=true then _ else _) _ _ _;rw[hb];simp only[if_true];refine AA<|BE (AB<|AB ?_);have e:pK w S ep es=(pickOrder (w.params.setOrder S ep) es.toArray).toList:=by unfold pK;rw[hb];rfl
  have e2:stK w ks i=stK w ks (i+1):=by unfold stK;rw[hb];rfl
  rw[e] at h;rw[e2];rw[cX] at h;exact h
 |false=>
  simp only[aX,if_false];have e:pK w S ep es=es:=by unfold pK;rw[hb];rfl
  have e2:gM tb.place (stK w ks i)=i:=by rw[hk.place];exact aNz hk.asc hb i hi
  have e3:((pK w S ep es)[i]?).map (fun e=>(e.2,stK w ks (i+1)))=(match es.toArray[i]?,tb.place[i]? with
     |some (_,x),some j=>some (x,j+1)
     |_,_=>none):=by
   have e4:stK w ks (i+1)=ks.getD i 0+1:=by unfold stK;rw[hb];rfl
   rw[e,e4];rw[hk.place]
   show _=(match es.toArray[i]?,ks.toArray[i]? with
     |some (_,x),some j=>some (x,j+1)
     |_,_=>none)
   by_cases h1:i<ks.length
   ·have h2:i<es.length:=by rw[hk.len];exact h1
    simp[h1,h2,bX]
   ·have h2:¬ i<es.length:=by rw[hk.len];exact h1
    simp[h1,h2]
  rw[e2];rw[e3] at h
  have r1:∀ (t t':Sem (Option<|BH×Nat)),AI (AG prog w) A t Q E s->AI (AG prog w) A (if(!tb.plain&&decide (es.toArray.size>1))=true then t' else t) Q E s:=λt t' ht=>by rw[hk.pl];exact ht
  refine r1 _ _ ?_;have led:tb.led=true:=by rw[hk.led,hb];rfl
  refine AA ?_
  wp_delta
  rw[led];exact AB<|AB h
theorem aMj{S:BJ}{es:List (Int×BH)}{i:Nat}{ks:List Nat}{tb:BP}{Q:Option BH->BI->Prop}(hk:TOk w es tb ks)(hI:s.heap.get? I=some (itK w S ks ep i))(ho:s.heap.get? S=some (soT es ep tb))(hi:i<=ks.length)
  (h:AI (AG prog w) A.in1 (match ((pK w S ep es)[i]?).map fun e=>(e.2,stK w ks (i+1)) with
       |some (x,next)=>do
        setField (Value.ref I) 0 (rawInt next)
        setField (Value.ref I) 1 (rawInt<|(i:Int)+1)
        ret x
       |none=>do
        setField (Value.ref I) 2 Value.none
        raiseNew (<-newExc (Value.type "StopIteration") [])) (λfin s'=>∃v,fin=Fin.done (Flow.ret v)/\AI (AG prog w) A (pure (some v)) Q E s')
  (λe s'=>AI (AG prog w) A (do if <-isInstance e (Value.type "StopIteration") then pure none else throw e) Q E s') s):AI (AG prog w) A (pyNext (.ref I)) Q E s:=by
 have hT:=aAo hI;unfold pyNext;refine AA (wpAny_attempt<|Al (name:=Str.ofString "__next__") hT slot_sit_next (Ae slot_sit_next hT wB ?_<|zJ _));unfold Builtin.«set_iterator.__next__»;refine AA<|AB (AA<|wpAny_fieldsOf hI rfl ?_);dsimp only;show AI _ _ (setEntries S>>=λes=>if((es.size:Int) !=(ks.length:Int))=true then _ else(setNext S (stK w ks i:Int).toNat (i:Int).toNat (ep:Int).toNat>>=_)) _ _ _;refine AA ?_;unfold setEntries;refine AA (AX ho rfl (hk.fit)<|AB ?_);rw[if_neg<|by simp[hk.len]];rw[dO,dO,dO];exact AA<|aPu hk ho hi h
theorem aPD{S:BJ}{es:List (Int×BH)}{i:Nat}{ks:List Nat}{tb:BP}{c:Int}{v:BH}{Q:Option BH->BI->Prop}(hk:TOk w es tb ks)(hI:s.heap.get? I=some (itK w S ks ep i))(ho:s.heap.get? S=some (soT es ep tb))(hi:i<ks.length)(hv:(pK w S ep es)[i]? =some (c,v))
  (h:∀h',h'.get? I=some (itK w S ks ep<|i+1)->Heap.SameBut I s.heap h'->Q (some v) {s with heap:=h'}):AI (AG prog w) A (pyNext<|.ref I) Q E s:=by
 refine aMj hk hI ho (dG hi) ?_;rw[hv];dsimp only[aQi];refine AA<|wpAny_setField hI rfl (by simp) ?_;have g1:=fV (Obj.mapFields (·.setIfInBounds 0 (rawInt ((stK w ks (i+1):Nat):Int)))) hI rfl;refine AA (wpAny_setField (s:={s with heap:=s.heap.update I (Obj.mapFields (·.setIfInBounds 0 (rawInt ((stK w ks (i+1):Nat):Int))))}) g1 rfl (by simp) ?_);have g2:=fV (Obj.mapFields (·.setIfInBounds 1 (rawInt<|(i:Int)+1))) g1 rfl;refine AB ⟨v,rfl,AB<|h _ (g2.trans ?_) ((Heap.SameBut.update ..).trans<|Heap.SameBut.update ..)⟩;rfl
theorem endW{S:BJ}{es:List (Int×BH)}{ks:List Nat}{tb:BP}{Q:Option BH->BI->Prop}(hh:A.handled=none)(hk:TOk w es tb ks)(hI:s.heap.get? I=some (itK w S ks ep ks.length))(ho:s.heap.get? S=some (soT es ep tb))(ho2:(pK w S ep es).length=ks.length)
  (h:∀h',Heap.ExtBut I s.heap h'->Q none {s with heap:=h'}):AI (AG prog w) A (pyNext<|.ref I) Q E s:=by
 refine aMj hk hI ho (aP _) ?_;rw[eR<|by omega];dsimp only[aQi];refine AA (wpAny_setField hI rfl (by simp)<|AA ?_);simp only[newExc,newTuple];refine AA (AR (AA (m:=firstArgMember _ _)<|wpAny_of_eq (a:=Value.none) (by first|rfl|(simp only[firstArgMember];rfl)) (AR ?_<|by size_fits))<|by size_fits);simp only[raiseNew];refine AA<|wpAny_handled ?_;rw[show A.in1.handled=none from hh];refine AA (AB<|wpAny_throw ?_);refine AA (wpAny_isInstance (T:="StopIteration") (b:=true) ⟨_,bG _ rfl,rfl⟩ isSubtype_stop<|AB ?_);exact h _<|((Heap.SameBut.update ..).extBut.push _).push _
theorem aPk{S:BJ}{es:List (Int×BH)}{ks:List Nat}{tb:BP}{Q:BH->BI->Prop}(hk:TOk w es tb ks)(ho:s.heap.get? S=some (soT es ep tb))
  (h:Q (.ref s.heap.objs.size) {s with heap:=s.heap.push (itK w S ks ep 0)}):AI (AG prog w) A (pyIter<|.ref S) Q E s:=by
 have hT:s.TypeIs (.ref S) "set":=⟨_,ho,rfl⟩;refine wpAny_pyIter_slot hT F.slot_set_iter (Ae F.slot_set_iter hT aDf ?_<|F.args_set_iter_1 _);unfold Builtin.«frozenset.__iter__»;refine AA (AA<|AB (AB<|AA ?_));unfold Builtin.Frozenset.sizeOf setEntries;refine AA (AA<|AX ho rfl (hk.fit) (AB<|AB ?_));refine AA ?_;unfold setDrawn;refine AA<|AX ho rfl (hk.fit) ?_;dsimp only;refine AA ?_;unfold setsByText;refine AA<|BE (AB<|AB ?_)
 have dr:∀ (b:Bool) (t t':Sem Fin) (Q:Fin->BI->Prop) (E:BH->BI->Prop),AI (AG prog w) A.in1 t' Q E s->AI (AG prog w) A.in1 (if(b&&(!tb.plain&&decide (es.toArray.size>1)))=true then t else t') Q E s:=λb t t' Q E ht=>by
  have:(b&&(!tb.plain&&decide (es.toArray.size>1)))=false:=by rw[hk.pl];simp
  rw[this];exact ht
 refine dr _ _ _ _ _ (AA<|AB (AA<|wpAny_setEpoch_of ho rfl (hk.fit) ?_));refine AA (AR<|AB ⟨_,rfl,"set_iterator",_,⟨_,bG _ rfl,rfl⟩,slot_sit_next.lookup, ?_⟩);have e0:stK w ks 0=0:=by unfold stK;split<;>rfl
 have e:({cls:=Value.type "set_iterator",data:=.fields [rawInt 0,rawInt 0,Value.ref S,rawInt (es.toArray.size:Int),rawInt (ep:Int)].toArray}:BM)=itK w S ks ep 0:=by unfold itK;rw[e0];simp[hk.len]
 exact e▸h
theorem aCj{S:BJ}{es:List (Int×BH)}{ks:List Nat}{tb:BP}(hk:TOk w es tb ks):(pK w S ep es).length=ks.length:=by rw[(aAm (w:=w) (S:=S) (ep:=ep) es).length_eq,hk.len]
theorem aNi(hh:A.handled=none){S:BJ}{es:List (Int×BH)}{ks:List Nat}{tb:BP}(hk:TOk w es tb ks)(hne:S≠I):
  Walks prog w A I [I,S] [I] ks.length (λi v=>∃c,(pK w S ep es)[i]? =some (c,v)) (λi h=>h.get? I=some (itK w S ks ep i)/\h.get? S=some (soT es ep tb)) where
 sub:=λb hb=>by simp at hb;simp[hb]
 frame:=λ_ _ _ st kp=>⟨kp I (by simp) _ st.1,kp S (by simp) _ st.2⟩
 item:=λi s Q E hi st k=>by
  have hi':i<(pK w S ep es).length:=by rw[aCj hk];exact hi
  obtain⟨⟨c,v⟩,hx⟩:∃p,(pK w S ep es)[i]? =some p:=⟨(pK w S ep es)[i],by simp[hi']⟩;refine aPD hk st.1 st.2 hi hx λh' g sb=>k v h' s.toks ⟨c,hx⟩ ⟨g, ?_⟩ λb o hb g=> ?_
  ·rw[sb.2 S hne];exact st.2
  ·rw[sb.2 b λz=>hb<|by simp[z]];exact g
 done:=λs Q E st k=>endW hh hk st.1 st.2 (aCj hk) λh' eb=>k h' s.toks λb o hb g=>eb b o (λz=>hb<|by simp[z]) g
 self:=λ_ _ _ _ st k=>aPH st.1 k
theorem srcW{S:BJ}{es:List (Int×BH)}{ks:List Nat}{tb:BP}(hk:TOk w es tb ks):PySem.W.KdlSrc prog w "set" S S ks.length (λi v=>∃c,(pK w S ep es)[i]? =some (c,v)) (λh=>h.get? S=some (soT es ep tb)) where
 type:=λ_ hm=>⟨_,hm,rfl⟩
 there:=λ_ hm=>⟨aS hm,aS hm⟩
 keep:=λ_ _ hm kp=>kp S (.inl rfl) _ hm
 notList:=by decide
 notTuple:=by decide
 hint:=λ_ _ _ _ hm q=>aPT ⟨_,hm,rfl⟩ q
 iter:=λ_ _ hh hm=>⟨_,_,(λ_ _ q=>aPk hk hm q),aNi hh hk (bS<|aS hm),⟨bG _ rfl,aD _ hm⟩⟩
noncomputable def iP(h:BL)(a:BJ)(vs:List BH):BL:=((h.update a<|Obj.mapSeq λ_=> #[]).push<|AZ "tuple" vs.toArray 0).push<|AZ "list" #[] 0
theorem sE(vs:List BH):(vs.toArray.zip vs.toArray).toList=vs.map λv=>(v,v):=by
 rw[Array.toList_zip];show vs.zip vs=_
 induction vs with
 |nil=>rfl
 |cons v vs ih=>rw[eW,ih];rfl
theorem aKv{rk:BH->Nat}{vs:List BH}(nd:(vs.map rk).Nodup)(hask:∀x∈vs,∀y∈vs,∀ (Q:Bool->BI->Prop) (E':BH->BI->Prop),Q (decide<|rk x<rk y) s->AI (AG prog w) A (keyLt' κ x y) Q E' s):mD prog w A E s κ (λp=>rk p.1) (vs.toArray.zip vs.toArray):=by
 refine⟨λ{x y st Q} hx hy hk h=> ?_, ?_⟩
 ·rw[sE] at hx hy;obtain⟨u,hu,rfl⟩:=aE.mp hx;obtain⟨v,hv,rfl⟩:=aE.mp hy;rw[lt'_eq];refine AE<|wpS_get ?_;rw[hk];exact AE<|wpS_lift (wpAny_attempt<|hask u hu v hv _ _ ⟨rfl,AJ h⟩)
 ·rw[sE,aR];exact nd
theorem qV{a:BJ}{vs:List BH}{rk:BH->Nat}{R:PySem.Fin->BI->Prop}(ho:s.heap.get? a=some (AZ "list" vs.toArray n))(nd:(vs.map rk).Nodup)(hn:vs.length<=10000)
  (hkind:2<=vs.length->∀ (Q:Ao->BI->Prop),Q κ ⟨iP s.heap a vs,s.gens,s.drawn,s.toks,s.os⟩->AI (AG prog w) A (keyKind' vs.toArray) Q E ⟨iP s.heap a vs,s.gens,s.drawn,s.toks,s.os⟩)
  (hask:∀x∈vs,∀y∈vs,∀ (Q:Bool->BI->Prop) (E':BH->BI->Prop),Q (decide<|rk x<rk y) ⟨iP s.heap a vs,s.gens,s.drawn,s.toks,s.os⟩->AI (AG prog w) A (keyLt' κ x y) Q E' ⟨iP s.heap a vs,s.gens,s.drawn,s.toks,s.os⟩)
  (h:∀out:Array BH,out.toList.Perm vs->(out.toList.map rk).Pairwise (·<·)->R (.done<|.ret .none) {s with heap:=sortedHeap s.heap a vs out}):AI (AG prog w) A (Builtin.«list.sort» ⟨[.ref a],[]⟩) R E s:=by
 have lt:a<s.heap.objs.size:=aS ho;have sz:vs.toArray.size=vs.length:=by simp
 obtain⟨n0,g1⟩:∃n0,(s.heap.update a<|Obj.mapSeq λ_=> #[]).get? a=some (AZ "list" #[] n0):=⟨_,BF ho λ_=> #[]⟩
 have n1:a≠((s.heap.update a<|Obj.mapSeq λ_=> #[]).push<|AZ "tuple" vs.toArray 0).objs.size:=by rw[size_push',pJ];exact bS<|oS lt
 have n2:a≠(s.heap.update a<|Obj.mapSeq λ_=> #[]).objs.size:=by rw[pJ];exact bS lt
 have g6:(iP s.heap a vs).get? a=some (AZ "list" #[] n0):=by unfold iP;rw[aJq _ _ _ n1,aJq _ _ _ n2,g1]
 rw[list_sort_plain];refine AA (listItems_at ho rfl<|AA (listUpdate_at ho rfl (AA (seqEpoch_at g1 rfl<|AA (wpAny_newTuple (AA (wpAny_newList (AV ?_)<|bW _))<|by show vs.length<=_;rw[Ah];omega))) (by rw[sz,Ah];omega)<|bW _));show AI (AG prog w) A _ R E ⟨iP s.heap a vs,s.gens,s.drawn,s.toks,s.os⟩;dsimp only
 by_cases h2:vs.toArray.size<2
 ·rw[if_pos h2,if_pos h2];refine AA<|AB ?_;rw[StateT.run_pure];refine AA (AB (AA<|seqEpoch_at g6 rfl (AA<|listUpdate_at g6 rfl ?_ (bW _) ?_)))
  ·simp only[bne_self_eq_false,if_false,aX];refine AB ?_
   have e:Array.map (λ(x:AH)=>x.2) (AK<|SortSt.mk' general' (vs.toArray.zip vs.toArray) #[] 7 none)=vs.toArray:=by apply lU.mp;rw[vA];show(vs.toArray.zip vs.toArray).toList.map _=vs;rw[sE,aR];exact iL _
   rw[e];refine h vs.toArray (.refl _) ?_;rw[sz] at h2
   match vs,h2 with
   |[],_=>exact .nil
   |[v],_=>exact kZ _ _
  ·show(Array.map _<|vs.toArray.zip vs.toArray).size<=_;rw[Array.size_map,Array.size_zip,sz,Ah];omega
 ·rw[if_neg h2,if_neg h2];rw[sz] at h2;refine AA<|hkind (by omega) _ ?_;have K:mD prog w A E ⟨iP s.heap a vs,s.gens,s.drawn,s.toks,s.os⟩ κ (λp=>rk p.1) (vs.toArray.zip vs.toArray):=aKv nd hask;refine AA<|Ac (aGc (Q:=λ_ st'=>SB κ (vs.toArray.zip vs.toArray) st'/\AscR (λp=>rk p.1) (AK st') 0 (vs.toArray.zip vs.toArray).size) K (st:=SortSt.mk' κ (vs.toArray.zip vs.toArray) #[] 7 none) ⟨Array.Perm.refl _,rfl,rfl⟩ rfl λst' b c=>⟨b,c⟩) ?_ λ_ _ z=>z;rintro⟨⟨⟩,st'⟩ s' ⟨rfl,hB,hA⟩;dsimp only
  have pm:(AK st').toList.Perm (vs.map λv=>(v,v)):=by
   have:=iE.mp hB.perm
   rwa[sE] at this
  have p2:((AK st').map (·.2)).toList.Perm vs:=by rw[vA];have:=pm.map (·.2);rw[aR] at this;exact this.trans (List.Perm.of_eq<|iL _)
  have sO:((AK st').map (·.2)).size=vs.length:=by
   have:=p2.length_eq
   rwa[cM] at this
  refine AA<|seqEpoch_at g6 rfl (AA<|listUpdate_at g6 rfl ?_ (bW _) ?_)
  ·rw[hB.failed];simp only[bne_self_eq_false,if_false,aX];refine AB<|h _ p2 ?_;rw[vA,aR,jV];intro i j hi hj hij;rw[aA,cM] at hi hj;have q:=hA i j (bW _) hij (by rw[<-hB.size];exact hj);rw[eH hi,eH hj] at q
   have d:∀p∈(AK st').toList,p.1=p.2:=λp hp=>by obtain⟨v,_,rfl⟩:=aE.mp<|pm.mem_iff.mp hp;rfl
   rw[eO,eO];have d1:=d (AK st')[i] (by simp);have d2:=d (AK st')[j] (by simp);rw[d1,d2] at q;simpa using q
  ·rw[sO,Ah];omega
open PySem.W (kat_lt kat_cons kat_nil kat_yes kat_no kat_one kat_kind KatTups KatLex)
theorem aCI{l:BJ}{vs:List BH}{rk:BH->Nat}{Q:BH->BI->Prop}(hl:s.heap.IsList l vs.toArray)(nd:(vs.map rk).Nodup)(hn:vs.length<=10000)
  (hkind:∀t:BI,(∀b o,s.heap.get? b=some o->t.heap.get? b=some o)->2<=vs.length->∀ (A':BK) (R:Ao->BI->Prop) (E':BH->BI->Prop),A'.units<=A.units+2->R κ t->AI (AG prog w) A' (keyKind' vs.toArray) R E' t)
  (hask:∀t:BI,(∀b o,s.heap.get? b=some o->t.heap.get? b=some o)->∀x∈vs,∀y∈vs,∀ (A':BK) (R:Bool->BI->Prop) (E':BH->BI->Prop),A'.units<=A.units+2->R (decide<|rk x<rk y) t->AI (AG prog w) A' (keyLt' κ x y) R E' t)
  (h:∀out:Array BH,out.toList.Perm vs->(out.toList.map rk).Pairwise (·<·)->Q (.ref<|s.heap.objs.size+1) {s with heap:=sortedAll s.heap vs out}):AI (AG prog w) A (call (.builtin "sorted") [.ref l]) Q E s:=by
 have hsz:((s.heap.push<|AZ "list" #[] 0).update s.heap.objs.size (Obj.mapSeq (·++vs.toArray))).objs.size=s.heap.objs.size+1:=by rw[pJ,size_push']
 have hoL:(((s.heap.push<|AZ "list" #[] 0).update s.heap.objs.size (Obj.mapSeq (·++vs.toArray))).push<|AZ "list" vs.toArray 0).get? (s.heap.objs.size+1)=some (AZ "list" vs.toArray 0):=by rw[<-hsz];exact bG _ rfl
 have k2:∀b o,s.heap.get? b=some o->(((s.heap.push<|AZ "list" #[] 0).update s.heap.objs.size (Obj.mapSeq (·++vs.toArray))).push<|AZ "list" vs.toArray 0).get? b=some o:=λb o g=>by
  have nb:s.heap.objs.size≠b:=λz=>absurd (aS g) (by rw[<-z];exact dU _)
  refine aD _ ?_;rw[cI _ _ nb];exact aD _ g
 have k6:∀b o,s.heap.get? b=some o->(iP (((s.heap.push<|AZ "list" #[] 0).update s.heap.objs.size (Obj.mapSeq (·++vs.toArray))).push<|AZ "list" vs.toArray 0) (s.heap.objs.size+1) vs).get? b=some o:=λb o g=>by
  have nb:s.heap.objs.size+1≠b:=λz=>by have:=aS g;rw[<-z] at this;exact absurd this (aCz.mpr<|lB _)
  unfold iP;refine aD _<|aD _ ?_;rw[cI _ _ nb];exact k2 b o g
 refine Calls.call_function_entry kind_sorted plain_sorted entry_sorted (args_sorted1<|.ref l) ?_;unfold Builtin.«sorted»;refine AA (m:=checkCount "sorted" 1 1 _) (AB<|AA (collect_list hl (AA (wpAny_newList ?_<|by rw[Ah];omega))<|by rw[Ah];omega));show AI _ _ _ _ _ ⟨((s.heap.push<|AZ "list" #[] 0).update s.heap.objs.size (Obj.mapSeq (·++vs.toArray))).push<|AZ "list" vs.toArray 0,s.gens,s.drawn,s.toks,s.os⟩;rw[hsz];refine AA (AV (Ae slot_list_sort ⟨_,hoL,rfl⟩ entry_list_sort (qV (κ:=κ) (rk:=rk) (s:=⟨_,s.gens,s.drawn,s.toks,s.os⟩) hoL nd hn (λh2 R q=>hkind ⟨iP (((s.heap.push<|AZ "list" #[] 0).update s.heap.objs.size (Obj.mapSeq (·++vs.toArray))).push<|AZ "list" vs.toArray 0) (s.heap.objs.size+1) vs,s.gens,s.drawn,s.toks,s.os⟩ k6 h2 _ R _ ?_ q) (λx hx y hy R E' q=>hask ⟨iP (((s.heap.push<|AZ "list" #[] 0).update s.heap.objs.size (Obj.mapSeq (·++vs.toArray))).push<|AZ "list" vs.toArray 0) (s.heap.objs.size+1) vs,s.gens,s.drawn,s.toks,s.os⟩ k6 x hx y hy _ R E' ?_ q) λout p1 p2=>⟨_,rfl,AB ⟨_,rfl,h out p1 p2⟩⟩)<|args_list_sort _))
 all_goals simp only[Around.in1];omega
theorem aJZ{fin b:Bool}{Q:Bool->BI->Prop}{r:List (BH×BH)}(x:aGG A s fin r b):∀ {i:Nat},Q b s->KatLex prog w A false fin Q r i s:=by
 induction x with
 |nil=>intro i q;exact kat_nil q
 |eq he _ ih=>intro i q;exact kat_cons<|SeqAt.EqAt.of_in1 he prog w _ _ (kat_yes<|ih q)
 |@lt x y r b he hl=>intro i q;refine kat_cons (SeqAt.EqAt.of_in1 he prog w _ _<|kat_no ?_);rw[lF];exact kat_one x y (wpAny_of_in1<|hl prog w _ _ q)
theorem wH{α β:Type}{G:α->β->Prop}:∀ {l:List α}{m:List β}{n:Nat}{a:α},Paired G l m->l[n]? =some a->∃b,m[n]? =some b/\G a b
 |_,_,_,_,.nil,h=>by simp at h
 |_,_,0,_,.cons r _,h=>by cases h;exact⟨_,rfl,r⟩
 |_,_,n+1,_,.cons _ t,h=>wH (n:=n) t (by simpa using h)
theorem sT{α β:Type}{G:α->β->Prop}:∀ {l:List α}{m:List β} (n:Nat),Paired G l m->Paired G (l.eraseIdx n) (m.eraseIdx n)
 |_,_,_,.nil=>.nil
 |_,_,0,.cons _ t=>t
 |_,_,n+1,.cons r t=>.cons r<|sT n t
def aOF(X:Cx):V->List V->Hp->VK->Prop:=λx vs H Q=>∃ (F:Hp) (l ad:BJ) (k:List Key) (y:V) (n:Nat) (o:BM) (kvs:List (List Key×V)),x=.ref l/\vs=[.ref ad]/\Same F H/\H l=some (exO l o)/\F ad=some (.tup<|k.map kV)/\X.A.units+1<AQ/\
 TDo X.prog X.w F l o kvs/\kvs[n]? =some (k,y)/\(∀o',(∀v,o'.data≠ .cell v)->TDo X.prog X.w F l o' (kvs.eraseIdx n)->Q y (upd H l<|exO l o'))
theorem aMV:MtR X "dict.pop" (aOF X):=by
 intro pins s σ H x vs v us Q I rx rv h;obtain⟨F,l,ad,k,y,n,o,kvs,rfl,rfl,sF,hl,ha,hu,⟨z,hm,ts,kt,es,ep,t1,t2,t3,t4⟩,hn,q1⟩:=h;obtain rfl:v=Value.ref l:=rx;obtain⟨u,rfl,ru⟩:=Vals.one rv;obtain rfl:u=Value.ref ad:=ru;have ho:s.heap.get? l=some o:=(I.hok l _ hl).1;have ktH:KT H kvs ts:=kt.keeps λb ys e=>sF _ _ e
 have dd:s.heap.DictOfH (Aq<|fJ X.prog X.w) l ts:=⟨o,es,ep,ho,t1,t2,t3,KT.all I.hok ktH,t4⟩;have hz:ts.length<=AN:=by rw[<-Paired.length kt];exact z
 obtain⟨⟨k',b,w'⟩,hj,e1,_,rw'⟩:=wH kt hn;have e1:k=k':=e1;subst e1;refine call_meetsIn aBt dd.typeIs PySem.F.entry_dict_pop (PySem.F.args_dict_pop_2 _ _) (aDl (Aq<|fJ X.prog X.w) l ad) ⟨BG hu,k,ts,n,(b,w'),tW I.hok<|sF _ _ ha,dd,hz,hj,λh' dd' hsm=> ?_⟩;obtain⟨q,es',ep',hq,u2,u3,u4,_,u5⟩:=dd';have I4:=vR (t':=s.toks+(Aq<|fJ X.prog X.w).draws k) I (ob:=exO l q) (by rw[hl];exact True.intro) hsm ⟨q,hq⟩<|xP hq;exact⟨y,_,I4,rw',q1 q (λv z=>by rw[u3] at z;cases z) ⟨by have:=List.length_eraseIdx_le kvs n;omega,hm,_,sT n kt,es',ep',u2,u3,u4,u5⟩⟩
variable {e:Expr}{l:BJ}{ls:List BJ}{ks:List (List Key)}{dss:List (List D)}
theorem aKU(i:Nat)(hg:Gl X "len")(hm:X.mg "len"=none)(hs:sd[i]? =some (odG X.prog X.w X.K l ks ls dss))(hx:PE X (.Name x p2) (mW i))(hst:AF [.Name x p2] X.env=(false,eval (.Name x p2) X.env)::AF [] X.env:=by rfl):PEd X sd (.Call (.Name "len" p) [.Name x p2] [] pos) (.val<|.int (ks.length:Nat)):=.mk λσ F H S=>
 (sK aFQ hg hm PySem.boot_len (iH hx pa_nil hst) (by decide) (by decide) hst rfl).to (by
  obtain⟨hv,hF,⟨o,g1,nc,hl,z,sm,xs,kt,es,ep,t1,t2,t3,t4⟩,hI,nd⟩:=jE S hs;refine⟨.ref l,hv,l,o,es,ep,rfl,g1,t1,t2,sm, ?_,F,S,Same.refl _, ?_⟩
  ·have:=Ay t3;have e2:=Paired.length kt;omega
  ·have:=Ay t3;have e2:=Paired.length kt;have e3:(ks.zip<|ls.map V.ref).length=ks.length:=by rw[kM,aA,hl,qA]
   simp only[ResOk,Rep]
   rw[this,<-e2,e3])
theorem aEg{F:Hp}:∀ {kvs:List (List Key×V)}{xs:List (List Key×BJ×BH)},KT F kvs xs->Vals (xs.map λq=>V.ref q.2.1) (xs.map λq=>Value.ref q.2.1)
 |_,_,.nil=>.nil
 |_,_,.cons _ t=>.cons rfl<|aEg t
theorem aIF{K:aB}{F:Hp}:∀ {kvs:List (List Key×V)}{xs:List (List Key×BJ×BH)},KT F kvs xs->RepL K F ((kvs.map (·.1)).map mO) (xs.map λq=>V.ref q.2.1)
 |_,_,.nil=>.nil
 |_,_, @Paired.cons _ _ _ p q _ _ r t=>by refine .cons ?_ (aIF t);simp only[mO,Rep];refine⟨q.2.1,p.1.map kV,rfl,r.2.1, ?_⟩;exact xZ _
theorem aGY(i:Nat)(hg:Gl X "list")(hm:X.mg "list"=none)(hs:sd[i]? =some (odG X.prog X.w X.K l ks ls dss))(hx:PE X (.Name x p2) (mW i))(hc:X.calm=true:=by rfl)(hst:AF [.Name x p2] X.env=(false,eval (.Name x p2) X.env)::AF [] X.env:=by rfl):PEd X sd (.Call (.Name "list" p) [.Name x p2] [] pos) (.own<|ks.map mO):=.mk λσ F H S pins s I=>by
 obtain⟨hv,hF,⟨o,g1,nc,hl,z,sm,xs,kt,es,ep,t1,t2,t3,t4⟩,hI,nd⟩:=jE S hs;refine Ad<|nF I hg hm PyProof.Rows.boot_list ?_;refine PyProof.Rows.callWith_type1 (thn ((iH hx pa_nil hst) pos pins s σ H (λus H1=>us=[.ref l]/\H1=H) I ⟨.ref l,hv,rfl,rfl⟩) λus s1 hus=> ?_) hst rfl;obtain⟨ws,H1,I1,rv,rfl,rfl⟩:=hus;obtain⟨u,rfl,ru⟩:=nN rv;cases(show u=Value.ref l from ru);have ez:es.size=xs.length:=Ay t3
 have e3:(ks.zip<|ls.map V.ref).map (·.1)=ks:=by rw[List.map_fst_zip];rw[aA];omega
 have e2:xs.length=ks.length:=by have:=Paired.length kt;rw[kM,aA] at this;omega
 have ho:s1.heap.get? l=some o:=(I1.hok l _ g1).1;refine PySem.W.kdl_call (srcD sm t1 t2) (I1.ok.hd hc) ho (by have:=Paired.length kt;omega) λh' tk acc c' kp gl it=> ?_
 have al:acc=(xs.map λq=>Value.ref q.2.1).toArray:=by
  apply lU.mp;apply oO;intro j
  by_cases hj:j<acc.toList.length
  ·have e4:acc.toList[j]? =some acc.toList[j]:=by simp[hj]
   obtain⟨u,q,ev⟩:=it.2 j acc.toList[j] (by rw[<-cX];exact e4);rw[e4,ev];rw[<-cX,t3,bA] at q;obtain⟨y,hy,ey⟩:=iV.mp q;rw[<-ey];simp[hy,entryOfKey]
  ·have a1:acc.toList.length=es.size:=by rw[cM];exact it.1
   rw[eR<|by omega,eR<|by simp;omega]
 subst al;have le2:s1.heap.objs.size<=s1.heap.objs.size:=aP _;have hD:H1 s1.heap.objs.size=none:=I1.hok.fresh le2
 have I4:Inv X pins σ (upd H1 s1.heap.objs.size (.lst<|xs.map λq=>V.ref q.2.1)) {s1 with heap:=h',toks:=tk}:=
  I1.laid kp le2 ⟨by rw[aA];have:=Paired.length kt;omega,_,c',aEg kt,gl⟩
 obtain⟨S4,fp,no⟩:=S.layO (xs:=xs.map λq=>V.ref q.2.1) hD;refine⟨.ref s1.heap.objs.size,_,I4,rfl,F,S4,Same.refl _,_,_,rfl,fp,cG, ?_,no⟩;have:=aIF (K:=X.K) kt;rw[e3] at this;exact this
noncomputable def lE(ds:List D):Nat:=Ab (λi k=>dlt (ds.getD i .non)<|ds.getD k .non)<|ds.length-1
structure aJK(X:Cx)(ds:List D):Prop where
 ne:0<ds.length
 cmp:∀d∈ds,∀d2∈ds,rV d d2=true
 pl:∀d∈ds,pl d=true
 dep:∀d∈ds,X.A.units+1+dep d<AQ
theorem aFC(hc:X.calm=true):lY X (.builtin "min") (λvs H Q=>∃ (a:BJ) (xs:List V) (ds:List D),vs=[.ref a]/\SqL X.K H a xs/\RepL X.K H ds xs/\aJK X ds/\∀v,xs[lE ds]? =some v->Q v H):=by
 intro pins s σ H vs us Q I r h;obtain⟨a,xs,ds,rfl,ha,rl,M,q⟩:=h;obtain⟨u,rfl,rx⟩:=nN r;cases(show u=Value.ref a from rx);obtain⟨its,rv,p,hz⟩:=I.list ha;have hl:=rv.length;have hd:=rl.len;have isl:s.heap.IsList a its.toArray:=p.isList;have alt:a<s.heap.objs.size:=by obtain⟨o,ho,_⟩:=isl;exact aS ho
 refine aFo<|At isl ?_;refine⟨s.heap.objs.size,[s.heap.objs.size,a],[s.heap.objs.size],its.toArray.size,_,_,λh=>HOk X.prog X.w H h,λi k=>dlt (ds.getD i .non)<|ds.getD k .non,rfl,Walks.list (A:=X.A.in1) (I.ok.hd hc) _ a (bS alt) its.toArray,⟨⟨_,bG _ rfl,rfl,rfl⟩,isl.push _⟩,λb hb=> ?_,by simp;have:=M.ne;omega, ?_, ?_, ?_,λv h' tk pv k=> ?_⟩
 ·rw[aAG];simp only[aW,gA,or_false] at hb
  rcases hb with rfl|rfl
  ·exact jW _
  ·exact oS alt
 ·intro i k x y t Q' E' hJ hx hy q';have hx:its[i]? =some x:=by simpa using hx
  have hy:its[k]? =some y:=by simpa using hy
  have li:i<ds.length:=by have:=(aK.mp hx).1;omega
  have lk:k<ds.length:=by have:=(aK.mp hy).1;omega
  have ei:ds[i]? =some (ds.getD i .non):=by simp[bX,li]
  have ek:ds[k]? =some (ds.getD k .non):=by simp[bX,lk]
  obtain⟨v1,g1,r1⟩:=rl.get ei;obtain⟨v2,g2,r2⟩:=rl.get ek;obtain⟨u1,w1,z1⟩:=rv.get g1;obtain⟨u2,w2,z2⟩:=rv.get g2;rw[hx] at w1;rw[hy] at w2;cases w1;cases w2;have mi:=bD ei;have mk:=bD ek;exact aIx hJ (ds.getD i .non) (M.cmp _ mi _ mk) (M.pl _ mi) (M.pl _ mk) r1 r2 z1 z2 (by have:=M.dep _ mi;simp only[Around.in1];omega) X.prog X.w _ _ q'
 ·exact aAQ (cs:=[]) I.hok (λb u _ g=>aD _ g) λb hb=>by cases hb
 ·intro h1 h2 j1 kp;refine aAQ (cs:=[s.heap.objs.size+1,s.heap.objs.size]) j1 (λb u hb g=>kp b u (λz=>hb ?_) g) λb hb=> ?_
  ·rw[aAG] at z;exact z
  ·simp only[aW,gA,or_false] at hb
   rcases hb with rfl|rfl
   ·exact I.hok.fresh<|lB _
   ·exact I.hok.fresh<|aP _
 ·have eb:Ab (λi k=>dlt (ds.getD i .non)<|ds.getD k .non) (its.toArray.size-1)=lE ds:=by unfold lE;rw[aV];congr 1;omega
  rw[eb] at pv;have pv:its[lE ds]? =some v:=by simpa using pv
  have lb:lE ds<xs.length:=by have:=(aK.mp pv).1;omega
  have ex:xs[lE ds]? =some xs[lE ds]:=by simp[lb]
  obtain⟨u,hu,ru⟩:=rv.get ex;rw[pv] at hu;cases hu;refine⟨xs[lE ds],H,I.kept (t':=tk) λb o g=>k b o (λz=> ?_)<|aD _ g,ru,q _ ex⟩;have zb:b=s.heap.objs.size:=by simpa using z
  exact bS (aS g) zb
theorem aLj{d:D}(hg:Gl X "min")(hm:X.mg "min"=none)(ha:PEd X sd e (.bor ds))(M:aJK X ds)(hd:ds[lE ds]? =some d)(hc:X.calm=true:=by rfl)(hst:AF [e] X.env=(false,eval e X.env)::AF [] X.env:=by rfl):PEd X sd (.Call (.Name "min" p) [e] [] pos) (.val d):=
 mR (he:=hst) (aFC hc) hg hm boot_min (aC ha aO trivial hst) λσ F H vs Q S q k=>by
  cases q with
  |cons q1 q2=>cases q2;obtain⟨p,xs,rfl,hp,rl,_⟩:=q1;refine⟨p,xs,ds,rfl,.of hp,rl.mono S.sub,M,λv hv=>k v F H S (Same.refl _) ?_⟩;obtain⟨v',g,r'⟩:=rl.get hd;rw[hv] at g;cases g;exact r'
theorem aAf{α β:Type}:∀ (a:List α) (b:List β) (n:Nat),a.length=b.length->(a.zip b).eraseIdx n=(a.eraseIdx n).zip (b.eraseIdx n)
 |[],[],_,_=>by simp
 |_::_,[],_,h=>by simp at h
 |[],_::_,_,h=>by simp at h
 |x::a,y::b,0,_=>rfl
 |x::a,y::b,n+1,h=>by show(x,y)::(a.zip b).eraseIdx n=(x,y)::(a.eraseIdx n).zip (b.eraseIdx n);rw[aAf a b n<|by simpa using h]
theorem aAr{α β:Type}(f:α->β):∀ (l:List α) (n:Nat),(l.eraseIdx n).map f=(l.map f).eraseIdx n
 |[],_=>by simp
 |_::_,0=>rfl
 |x::l,n+1=>by show f x::(l.eraseIdx n).map f=f x::(l.map f).eraseIdx n;rw[aAr f l n]
theorem aFJ{j:Nat}{z:Slot}{a:BJ}(h:sd[j]? =some z)(ha:a∈iR z):a∈cQ sd:=eI.mpr ⟨z,bD h,ha⟩
variable {H₀ F F' H':Hp}{i:Nat}{P:AD}
theorem StF.popG{o:BM}(n:Nat)(S:StF K H₀ F H σ sd)(hs:sd[i]? =some (odG P w K l ks ls dss))(nc:∀v,o.data≠ .cell v)(td:TDo P w F l o ((ks.zip<|ls.map V.ref).eraseIdx n)):
  StF K H₀ F (upd H l<|exO l o) σ (sd.set i (odG P w K l (ks.eraseIdx n) (ls.eraseIdx n)<|dss.eraseIdx n)):=by
 obtain⟨g1,g2,⟨o',g3,nc',hl,_⟩,g4,g5⟩:=jE S hs;obtain⟨n1,n2⟩:=cC.mp g5
 have sb:∀b,b∈l::ls.eraseIdx n->b∈l::ls:=λb hb=>by
  rcases aW.mp hb with h|h
  ·exact h▸aH
  ·exact aI _<|kG h
 refine S.reX (z':=odG P w K l (ks.eraseIdx n) (ls.eraseIdx n)<|dss.eraseIdx n) hs g1 (λb ob hb q=> ?_) (oH S.smp l) (wJ (λb hb=>g2 b<|sb b hb) cG nc ?_ ?_ ?_) ?_ λb hb=>.inl<|sb b hb
 ·rw[bV (show b≠l from λz=>hb<|z▸aH)];exact q
 ·rw[aGl,aGl,hl]
 ·rw[aAr,<-aAf _ _ _ (by rw[aA];exact hl)];exact td
 ·refine InD.erase n<|g4.mono2 (Same.refl _) λb hb ob q=> ?_;rw[bV (show b≠l from λz=>n1<|z▸hb)];exact q
 ·show(l::ls.eraseIdx n).Nodup;exact cC.mpr ⟨λh=>n1<|kG h,n2.sublist<|qN _ _⟩
open PySem.W (kat_lt kat_kind KatTups KatLex)
noncomputable abbrev Pr2:=List Int×List Int
noncomputable def p2D(x:Pr2):D:=.tup [bF x.1,bF x.2]
theorem aPW(x:Pr2):pl (p2D x)=true:=by show(pl (bF x.1)&&(pl (bF x.2)&&true))=true;rw[tN,tN];rfl
theorem yP:∀a b:List Int,zK (a.map D.int) (b.map D.int)=true
 |[],_=>rfl
 |_::_,[]=>rfl
 |x::a,y::b=>by show(true&&zK (a.map D.int) (b.map D.int))=true;rw[yP a b];rfl
theorem aNt(x y:Pr2):zK [bF x.1,bF x.2] [bF y.1,bF y.2]=true:=by show(zK (x.1.map D.int) (y.1.map D.int)&&(zK (x.2.map D.int) (y.2.map D.int)&&true))=true;rw[yP,yP];rfl
theorem aBP{x:List Int}{v:V}(h:Rep K F (bF x) v):∃c,v=.ref c/\F c=some (.tup<|x.map V.int):=by simp only[bF,Rep] at h;obtain⟨c,ys,rfl,e,r⟩:=h;have:=(show RepL K F (x.map D.int) ys from r).ints;subst this;exact⟨c,rfl,e⟩
theorem aAO:∀ {x y:List Int},x.map V.int=y.map V.int->x=y
 |[],[],_=>rfl
 |[],_::_,h=>by cases h
 |_::_,[],h=>by cases h
 |a::x,b::y,h=>by
  rw[aZ,aZ] at h;injection h with h1 h2
  injection h1 with h1
  rw[h1,aAO h2]
theorem aIL{x:Pr2}{v:V}(h:Rep K F (p2D x) v):∃a c d,v=.ref a/\F a=some (.tup [.ref c,.ref d])/\F c=some (.tup<|x.1.map V.int)/\F d=some (.tup<|x.2.map V.int):=by simp only[p2D,Rep] at h;obtain⟨a,ys,rfl,e,r⟩:=h;obtain⟨v1,ys1,rfl,r1,t1⟩:=r.uncons;obtain⟨v2,ys2,rfl,r2,t2⟩:=t1.uncons;simp only[RepL] at t2;subst t2;obtain⟨c,rfl,f1⟩:=aBP r1;obtain⟨d,rfl,f2⟩:=aBP r2;exact⟨a,c,d,rfl,e,f1,f2⟩
theorem aDa{x y:Pr2}{v:V}(h:Rep K F (p2D x) v)(g:Rep K F (p2D y) v):x=y:=by obtain⟨a,c,d,rfl,e,f1,f2⟩:=aIL h;obtain⟨a',c',d',ea,e',f1',f2'⟩:=aIL g;cases ea;rw[e] at e';cases e';rw[f1] at f1';rw[f2] at f2';have h1:=aAO (HO.tup.inj<|cA.inj f1');have h2:=aAO (HO.tup.inj<|cA.inj f2');exact Prod.ext h1 h2
structure SrtP(A:BK)(ps:List Pr2)(rk:Pr2->Nat):Prop where
 len:ps.length<=10000
 lt:∀x∈ps,∀y∈ps,dlt (p2D x) (p2D y)=decide (rk x<rk y)
 nd:(ps.map rk).Nodup
 un:A.units+8<AQ
theorem aMW(x:Pr2):dep (p2D x)=2:=by show max (dep<|bF x.1) (max (dep<|bF x.2) 0)+1=2;rw[sC,sC];rfl
noncomputable def srE{α:Type}(hd:α->List D)(sn:α->D)(x:α):D:=.tup [.tup<|hd x,sn x]
structure aQq{α:Type}(A:BK)(K:aB)(hd:α->List D)(sn:α->D)(ps:List α)(rk:α->Nat):Prop where
 len:ps.length<=10000
 lt:∀x∈ps,∀y∈ps,qQ [.tup<|hd x,sn x] [.tup<|hd y,sn y]=decide (rk x<rk y)
 nd:(ps.map rk).Nodup
 un:A.units+8<AQ
 pl:∀x∈ps,plL [.tup<|hd x,sn x]=true
 cm:∀x∈ps,∀y∈ps,zK [.tup<|hd x,sn x] [.tup<|hd y,sn y]=true
 dp:∀x∈ps,jT [.tup<|hd x,sn x]<=4
 inj:∀ (F:Hp) (x y:α) (v:V),Rep K F (srE hd sn x) v->Rep K F (srE hd sn y) v->x=y
theorem aEL{v:V}(h:Rep K F (.tup ds) v):∃a,v=.ref a:=by simp only[Rep] at h;obtain⟨a,_,rfl,_⟩:=h;exact⟨a,rfl⟩
variable {α:Type}{hd:α->List D}{sn:α->D}
theorem aDh:lY X (.builtin "sorted") (fun vs H Q=>∃ (a:BJ) (xs:List V) (ps:List α) (rk:α→Nat),vs=[.ref a]∧H a=some (.lst xs)∧RepL X.K H (ps.map (srE hd sn)) xs∧aQq X.A X.K hd sn ps rk∧
  ∀ (D:BJ) (ys:List V) (qs:List α),H D=none->qs.Perm ps->(qs.map rk).Pairwise (·<·)->(∀F,RepL X.K F (ps.map (srE hd sn)) xs->RepL X.K F (qs.map (srE hd sn)) ys)->Q (.ref D) (upd H D (.lst ys))):=by
 intro pins s σ H vs us Q I r h;obtain⟨a,xs,ps,rk,rfl,ha,rl,M,q⟩:=h;obtain⟨u,rfl,rx⟩:=nN r;cases(show u=Value.ref a from rx);obtain⟨z,its,n,rv,hl2,eo⟩:=I.lstM ha
 have tb:∀ {ps:List α}{xs:List V}{us:List BH},RepL X.K H (ps.map<|srE hd sn) xs->Vals xs us->∃T:List (α×BJ),us=(T.map λr=>Value.ref r.2)/\xs=(T.map λr=>V.ref r.2)/\ps=(T.map λr=>r.1)/\∀r∈T,Rep X.K H ((srE hd sn) r.1) (.ref r.2):=by
  intro ps
  induction ps with
  |nil=>intro xs us r rv;rw[fD] at r;simp only[RepL] at r;subst r;cases rv;exact⟨[],rfl,rfl,rfl,λr h=>(gA h).elim⟩
  |cons x ps ih=>
   intro xs us r rv;rw[aZ] at r;obtain⟨v,xs,rfl,a,rl⟩:=r.uncons;cases rv with
   |cons ru rv=>
    obtain⟨T,e1,e2,e3,t1⟩:=ih rl rv;obtain⟨b,rfl⟩:=aEL a;cases ru;refine⟨(x,b)::T,by rw[aZ,<-e1],by rw[aZ,<-e2],by rw[aZ,<-e3],λr hr=> ?_⟩
    rcases aW.mp hr with rfl|hr
    ·exact a
    ·exact t1 r hr
 obtain⟨T,rfl,rfl,rfl,tr⟩:=tb rl rv
 obtain⟨rkW,hrk⟩:∃rkW:BH->Nat,∀r∈T,rkW (.ref r.2)=rk r.1:=by
  classical
  refine⟨λv=>if h:∃r∈T,v=Value.ref r.2 then rk h.choose.1 else 0,λr hr=> ?_⟩;have h:∃r'∈T,Value.ref r.2=Value.ref r'.2:=⟨r,hr,rfl⟩;show(if h:∃r'∈T,Value.ref r.2=Value.ref r'.2 then rk h.choose.1 else 0)=_;rw[dif_pos h]
  have e2:r.2=h.choose.2:=by have:=h.choose_spec.2;injection this
  have r2:=tr _ h.choose_spec.1;rw[<-e2] at r2;rw[M.inj _ _ _ _ r2<|tr r hr]
 have mT:∀ {r:α×BJ},r∈T->r.1∈T.map λr=>r.1:=λh=>cP (f:=λr:α×BJ=>r.1) h
 have lT:T.length<=10000:=by simpa using M.len
 have mv:∀x∈(T.map λr=>Value.ref r.2),∃r∈T,x=Value.ref r.2:=λx hx=>by obtain⟨r,hr,e⟩:=aE.mp hx;exact⟨r,hr,e.symm⟩
 have ew:∀T':List (α×BJ),(∀r∈T',r∈T)->(T'.map λr=>Value.ref r.2).map rkW=(T'.map λr=>r.1).map rk:=λT' h=>by rw[aR,aR];exact bQ λr hr=>hrk r<|h r hr
 have hok':∀t:BI,(∀b o,s.heap.get? b=some o->t.heap.get? b=some o)->HOk X.prog X.w H t.heap:=λt k=>aAQ (cs:=[]) I.hok (λb u _ g=>k b u g) λb hb=>(gA hb).elim
 refine aCI (l:=a) (vs:=T.map λr=>Value.ref r.2) (κ:=tuples' false) (rk:=rkW) ⟨_,eo,rfl,n,rfl⟩ (by rw[ew T λ_ h=>h];exact M.nd) (by rw[aA];exact lT) (λt kp h2 A' R E' _ hR=> ?_) (λt kp x hx y hy A' R E' hA hR=> ?_) λout p1 p2=> ?_
 ·have ok:=hok' t kp
  have kt:∀T':List (α×BJ),(∀r∈T',r∈T)->∃fs:List BH,KatTups t.heap (T'.map λr=>Value.ref r.2) fs/\fs.length=T'.length/\∀v∈fs,∃c o,v=.ref c/\t.heap.get? c=some o/\o.cls=.type "tuple":=λT'=>by
   induction T' with
   |nil=>exact λ_=>⟨[],.nil,rfl,λv hv=>(gA hv).elim⟩
   |cons r T' ih=>
    intro h;obtain⟨fs,k,l,i⟩:=ih λr hr=>h r<|aI _ hr
    have rr:=tr r<|h r aH;obtain⟨b,ys,its,e1,e2,r2,v2,o,g,c,n',hd1⟩:=jA ok rr (show RelV (.ref r.2) (.ref r.2) from rfl);cases e1;cases e2;have r2:RepL X.K H [.tup<|hd r.1,sn r.1] ys:=r2;obtain⟨w1,ys1,rfl,q1,t1⟩:=r2.uncons;obtain⟨w2,ys2,rfl,q2,t2⟩:=t1.uncons;simp only[RepL] at t2;subst t2;obtain⟨c1,rfl⟩:=aEL q1;cases v2 with
    |cons ru1 v2=>
     cases ru1;obtain⟨b1,ys1,its1,e3,e4,_,_,o1,g1,cc1,_⟩:=jA ok q1 (show RelV (.ref c1) (.ref c1) from rfl);cases e3;refine⟨.ref c1::fs,KatTups.cons g c hd1 (by simp) k,by rw[bU,bU,l],λv hv=> ?_⟩
     rcases aW.mp hv with rfl|hv
     ·cases e4;exact⟨_,o1,rfl,g1,cc1⟩
     ·exact i v hv
  obtain⟨fs,k,l,i⟩:=kt T λ_ h=>h
  rw[aA] at h2;refine kat_kind (T:=.type "tuple") k (by omega) (λv hv=> ?_) rfl hR;obtain⟨c,o,rfl,g,e⟩:=i v hv;have:PySem.W.Looks (AG X.prog X.w) t.heap (typeOf<|.ref c) o.cls:=(PySem.W.Looks.ld g).andThen .now;rw[e] at this;exact this
 ·have ok:=hok' t kp;obtain⟨rx,hrx,rfl⟩:=mv x hx;obtain⟨ry,hry,rfl⟩:=mv y hy;obtain⟨b,ys,its,e1,e2,r2,v2,o,g,c,n',hd1⟩:=jA ok (tr rx hrx) (show RelV (.ref rx.2) (.ref rx.2) from rfl);cases e1;cases e2;obtain⟨b',ys',its',e1,e2,r2',v2',o',g',c',n'',hd'⟩:=jA ok (tr ry hry) (show RelV (.ref ry.2) (.ref ry.2) from rfl);cases e1;cases e2;have r2:RepL X.K H [.tup<|hd rx.1,sn rx.1] ys:=r2;have r2':RepL X.K H [.tup<|hd ry.1,sn ry.1] ys':=r2';have l1:its.length=2:=by rw[<-v2.length,r2.len];rfl
  have l2:its'.length=2:=by rw[<-v2'.length,r2'.len];rfl
  refine kat_lt g hd1 g' hd'<|aJZ (A:=A') (b:=qQ [.tup<|hd rx.1,sn rx.1] [.tup<|hd ry.1,sn ry.1]) ?_ ?_
  ·refine aDM ok [.tup<|hd rx.1,sn rx.1] (es:=[.tup<|hd ry.1,sn ry.1]) ?_ ?_ ?_ r2 r2' v2 v2' ?_ (by simp[l1,l2])
   ·exact M.cm _ (mT hrx) _<|mT hry
   ·exact M.pl _<|mT hrx
   ·exact M.pl _<|mT hry
   ·have:=M.un;have:=M.dp _<|mT hrx;omega
  ·have e:qQ [.tup<|hd rx.1,sn rx.1] [.tup<|hd ry.1,sn ry.1]=decide (rkW (.ref rx.2)<rkW (.ref ry.2)):=by rw[hrk rx hrx,hrk ry hry];exact M.lt _ (mT hrx) _ (mT hry)
   rw[e];exact hR
 ·obtain⟨T',q1,q2⟩:=pA (f:=λr:α×BJ=>Value.ref r.2) (l:=T) (l':=out.toList) p1
  have eo2:out=(T'.map λr=>Value.ref r.2).toArray:=by apply lU.mp;rw[q2]
  rw[q2,ew T' λr hr=>q1.mem_iff.mp hr] at p2;subst eo2;obtain⟨kp,n2,g2⟩:=aHt s.heap (T.map λr=>Value.ref r.2) (T'.map λr=>Value.ref r.2).toArray;have hD:H (s.heap.objs.size+1)=none:=I.hok.fresh<|lB _;have lT':T'.length=T.length:=q1.length_eq
  have vv:Vals (T'.map λr=>V.ref r.2) (T'.map λr=>Value.ref r.2):=by
   generalize T'=U
   induction U with
   |nil=>exact .nil
   |cons r U ih=>exact .cons rfl ih
  have I3:Inv X pins σ (upd H (s.heap.objs.size+1) (.lst<|T'.map λr=>V.ref r.2)) {s with heap:=sortedAll s.heap (T.map λr=>Value.ref r.2) (T'.map λr=>Value.ref r.2).toArray}:=
   I.laid (t':=s.toks) kp (lB _) ⟨by rw[Ah,aA];omega,_,n2,vv,by simpa[AZ] using g2⟩
  refine⟨.ref<|s.heap.objs.size+1,_,I3,rfl,q _ (T'.map λr=>V.ref r.2) (T'.map λr=>r.1) hD (q1.map _) p2 λF rF=> ?_⟩
  have all:∀ {U:List (α×BJ)},RepL X.K F ((U.map λr=>r.1).map<|srE hd sn) (U.map λr=>V.ref r.2)->∀r∈U,Rep X.K F ((srE hd sn) r.1) (.ref r.2):=λ{U}=>by
   induction U with
   |nil=>exact λ_ r hr=>(gA hr).elim
   |cons y U ih=>
    intro h r hr;rw[aZ,aZ,aZ] at h;obtain⟨v,vs,e,a1,a2⟩:=h.uncons;cases e
    rcases aW.mp hr with rfl|hr
    ·exact a1
    ·exact ih a2 r hr
  have aT:=all rF;have rT:∀r∈T',Rep X.K F ((srE hd sn) r.1) (.ref r.2):=λr hr=>aT r<|q1.mem_iff.mp hr
  clear vv I3 g2 p2 q1 q2 p1 lT' kp
  induction T' with
  |nil=>exact .nil
  |cons r U ih=>exact .cons (rT r aH) (ih λq hq=>rT q<|aI _ hq)
theorem SrtP.gen{ps:List Pr2}{rk:Pr2→Nat}(M:SrtP A ps rk):aQq A K (fun x:Pr2=>x.1.map D.int) (fun x=>bF x.2) ps rk:=⟨M.len,M.lt,M.nd,M.un,fun x _=>aPW x,fun x _ y _=>aNt x y,fun x _=>by
 have:=aMW x;have:jT [bF x.1,bF x.2]+1=2:=this;show jT [bF x.1,bF x.2]<=4
 omega,λF x y v h1 h2=>aDa h1 h2⟩
theorem aCS:lY X (.builtin "sorted") (fun vs H Q=>∃ (a:BJ) (xs:List V) (ps:List Pr2) (rk:Pr2→Nat),vs=[.ref a]∧H a=some (.lst xs)∧RepL X.K H (ps.map p2D) xs∧SrtP X.A ps rk∧
  ∀ (D:BJ) (ys:List V) (qs:List Pr2),H D=none->qs.Perm ps->(qs.map rk).Pairwise (·<·)->(∀F,RepL X.K F (ps.map p2D) xs->RepL X.K F (qs.map p2D) ys)->Q (.ref D) (upd H D (.lst ys))):=by
 intro pins s σ H vs us Q I r h;obtain⟨a,xs,ps,rk,h1,h2,h3,M,q⟩:=h;exact aDh pins s σ H vs us Q I r ⟨a,xs,ps,rk,h1,h2,h3,M.gen,q⟩
variable {k:List Key}{E:kE}{ps:List Pr2}{rk:Pr2->Nat}
theorem aHB(i j n:Nat){y:Str}{px py ap:Pos}(hu:X.A.units+1<AQ)(hg:Gl X "sorted")(hm:X.mg "sorted"=none)(hs:sd[i]? =some (odG X.prog X.w X.K l ks ls dss))(hx:PE X (.Name x px) (mW i))(hb:PEd X sd b (.val (.tup<|k.map kD)))(hk:ks[n]? =some k)(hd:dss[n]? =some (ps.map p2D))(M:SrtP X.A ps rk)
  (hN:X.N.Nodup) (hj:X.N[j]? =some y) (hy:Loc X.env.scope y)
  (hE:∀ (l':BJ) (qs:List Pr2),qs.Perm ps->(qs.map rk).Pairwise (·<·)->E.nx ((sd.set i (odG X.prog X.w X.K l (ks.eraseIdx n) (ls.eraseIdx n)<|dss.eraseIdx n)).set j (.own l'<|qs.map p2D)))
  (hpop:PE X (.Call (.Attribute (.Name x px) "pop" ap) [b] [] cp) (λσ H Q=>mW i σ H λv H1=>(∃l ob,v=.ref l/\H1 l=some (exO l ob)/\ob.ExactDict)/\(qT (wE X b) aIf) σ H1 λxs H2=>aOF X v xs H2 Q):=by exact aMd aAC aBt PySem.F.type_dict_pop aMV (pv _) (iH gP pa_nil))
  (hst:AF [.Call (.Attribute (.Name x px) "pop" ap) [b] [] cp] X.env=(false,eval (.Call (.Attribute (.Name x px) "pop" ap) [b] [] cp) X.env)::AF [] X.env:=by rfl)
  (hsw:Ag (.Call (.Name "sorted" p) [.Call (.Attribute (.Name x px) "pop" ap) [b] [] cp] [] p2) (some<|.Name y py) pos.line X.env=pure false:=by rfl)
  (hf:X.fn y=true\/X.env.scope.names.lookup y=some .local:=by first|exact .inl rfl|exact .inr rfl|assumption):
  PSd1 X sd (.Assign [.Name y py] (.Call (.Name "sorted" p) [.Call (.Attribute (.Name x px) "pop" ap) [b] [] cp] [] p2) pos) E:=.mk λσ F H S=>
 (uI hN hj hy (sK aCS hg hm boot_sorted (iH hpop pa_nil hst) (by decide) (by decide) hst rfl) hsw hf).to (by
  obtain⟨h1,h2,⟨o,h3,nc,hk2,td⟩,h4,h5⟩:=jE S hs;refine⟨.ref l,h1,⟨l,o,rfl,h3,td.2.2.choose_spec.2.choose_spec.choose_spec.1⟩,(hb σ F H S).imp λv1 H1 ⟨F1,S1,s1,q1⟩=> ?_⟩;obtain⟨g1,g2,⟨o2,g3,nc2,hk3,td2⟩,g4,g5⟩:=jE S1 hs;obtain⟨n1,n2⟩:=cC.mp g5;simp only[ResOk,Rep] at q1;obtain⟨ad,ys,rfl,ha,rl⟩:=q1;rw[pS rl] at ha;have nl:n<ls.length:=by have:=(aK.mp hk).1;omega
  have e3:ls[n]? =some ls[n]:=by simp[nl]
  generalize ls[n]=an at e3;obtain⟨ds,xs,d1,d2,d3⟩:=g4.get e3;rw[hd] at d1;cases d1;have anl:an≠l:=λz=>n1<|z▸bD e3
  have zg:(ks.zip<|ls.map V.ref)[n]? =some (k,V.ref an):=by rw[nM];exact⟨hk,by rw[bA,e3];rfl⟩
  refine⟨F1,l,ad,k,.ref an,n,o2,ks.zip<|ls.map V.ref,rfl,rfl,S1.sub,g3,ha,hu,td2,zg,λo' nc' td'=> ?_⟩;have S2:=S1.popG n hs nc' td';refine⟨an,xs,ps,rk,rfl,by rw[bV anl];exact d2,d3.mono S2.sub,M,λD ys qs hD pm pw hr=> ?_⟩;obtain⟨S3,fp,no⟩:=S2.layO (xs:=ys) hD
  exact⟨_,F1,S3.setO j fp cG (hr F1 d3) no,s1,hE D qs pm pw⟩)
theorem InD.snocL{a:BJ}{xs:List V}:∀ {as:List BJ}{dss:List (List D)},InD K F H as dss->H a=some (.lst xs)->RepL K F ds xs->InD K F H (as++[a]) (dss++[ds])
 |[],[],_,e,r=>⟨⟨xs,e,r⟩,trivial⟩
 |[],_::_,h,_,_=>h.elim
 |_::_,[],h,_,_=>h.elim
 |_::_,_::_,h,e,r=>⟨h.1,InD.snocL h.2 e r⟩
theorem StF.newW{a:BJ}{o:BM}{xs:List V}(S:StF K H₀ F H σ sd)(hs:sd[i]? =some (odG P w K l ks ls dss))(fa:F a=none)(ha:H a=some (.lst xs))(rl:RepL K F ds xs)(na:a∉cQ sd)(nc:∀v,o.data≠ .cell v)(td:TDo P w F l o (ks.zip (ls.map V.ref)++[(k,.ref a)])):
  StF K H₀ F (upd H l<|exO l o) σ (sd.set i (odG P w K l (ks++[k]) (ls++[a])<|dss++[ds])):=by
 obtain⟨g1,g2,⟨o',g3,nc',hl,_⟩,g4,g5⟩:=jE S hs;obtain⟨n1,n2⟩:=cC.mp g5;have ml:∀b∈l::ls,b∈cQ sd:=λb hb=>aFJ hs hb
 have al:a≠l:=λz=>na<|z▸ml l aH
 have als:a∉ls:=λz=>na (ml a<|aI _ z)
 have sp:∀b,b∈l::(ls++[a])->b∈l::ls\/b=a:=λb hb=>by
  rcases aW.mp hb with h|h
  ·exact .inl<|h▸aH
  ·rcases aU.mp h with h|h
   ·exact .inl<|aI _ h
   ·exact .inr<|aN.mp h
 refine S.reX (z':=odG P w K l (ks++[k]) (ls++[a])<|dss++[ds]) hs g1 (λb ob hb q=> ?_) (oH S.smp l) (wJ (λb hb=> ?_) cG nc (by rw[aQ,aQ,hl];rfl) ?_ ?_) ?_ λb hb=> ?_
 ·rw[bV (show b≠l from λz=>hb<|z▸aH)];exact q
 ·rcases sp b hb with h|rfl
  ·exact g2 b h
  ·exact fa
 ·rw[aJ,aZ,fD,tS<|by rw[aA];exact hl];exact td
 ·refine InD.snocL (g4.mono2 (Same.refl _) λb hb ob q=> ?_) ?_ rl
  ·rw[bV (show b≠l from λz=>n1<|z▸hb)];exact q
  ·rw[bV al];exact ha
 ·show(l::(ls++[a])).Nodup;refine cC.mpr ⟨λh=> ?_,bK.mpr ⟨n2,by simp,λb hb c hc e=>als<|aN.mp hc▸e▸hb⟩⟩
  rcases aU.mp h with h|h
  ·exact n1 h
  ·exact al (aN.mp h).symm
 ·rcases sp b hb with h|rfl
  ·exact .inl h
  ·exact .inr na
theorem aHS(i:Nat){q1 q2 tp:Pos}{c c':Int}{j1 j2 x1:Nat}(hu:X.A.units+1<AQ)(hs:sd[i]? =some (odG X.prog X.w X.K l ks ls dss))(hx:PE X (.Name x p) (mW i))(h:PEd X sd e (.own ds))(hk:([Sum.inl c,Sum.inl c']:List Key)∉ks)(hl:dss.length<=1000)
  (hE:∀a,E.nx<|sd.set i (odG X.prog X.w X.K l (ks++[[Sum.inl c,Sum.inl c']]) (ls++[a])<|dss++[ds]))
  (hb:PE X (.Tuple [.Constant (.int c) j1 q1, .Constant (.int c') j2 q2] x1 tp) (aQx (qT (tC<|.int c)<|qT (tC<|.int c') aIf)):=by exact aIH (iH pe_int<|iH pe_int pa_nil))
  (hsw:Ag e (some<|.Subscript (.Name x p) (.Tuple [.Constant (.int c) j1 q1, .Constant (.int c') j2 q2] x1 tp) p2) pos.line X.env=pure false:=by rfl):PSd1 X sd (.Assign [.Subscript (.Name x p) (.Tuple [.Constant (.int c) j1 q1, .Constant (.int c') j2 q2] x1 tp) p2] e pos) E:=.mk λσ F H S pins s I=>by
 refine wpAny_Assign_Subscript (thn (h σ F H S pins s I) λr s1 ⟨v,H1,I1,rv,F1,S1,sF1,q1⟩=> ?_) hsw;obtain⟨a,xs,rfl,fa,ha,rl,na⟩:=q1;obtain rfl:r=Value.ref a:=rv;obtain⟨h1,_⟩:=jE S1 hs;refine thn (hx pins s1 σ H1 (λv H2=>v=.ref l/\H2=H1) I1 ⟨.ref l,h1,rfl,rfl⟩) λu s2 ⟨y,H2,I2,ry,e1,e2⟩=> ?_
 subst e1 e2;obtain rfl:u=Value.ref l:=ry;refine thn (hb pins s2 σ H2 (λv H3=>∃ad,v=.ref ad/\H2 ad=none/\H3=upd H2 ad (.tup [.int c,.int c'])) I2 ⟨by show 2<=AN;decide,λad had=>⟨ad,rfl,had,rfl⟩⟩) λiv s3 ⟨y,H3,I3,ry,ad,e1,fad,e3⟩=> ?_
 subst e1 e3;obtain rfl:iv=Value.ref ad:=ry;obtain⟨S3,sF3⟩:=S1.lay (o:=.tup [.int c,.int c']) fad trivial;have ada:a≠ad:=λz=>by rw[z,fad] at ha;cases ha
 have fa3:upd F1 ad (.tup [.int c,.int c']) a=none:=by rw[bV ada];exact fa
 have ha3:upd H2 ad (.tup [.int c,.int c']) a=some (.lst xs):=by rw[bV ada];exact ha
 obtain⟨g1,g2,⟨o,g3,nc,hkl,z,hm,ts,kt,es,ep,t1,t2,t3,t4⟩,g4,g5⟩:=jE S3 hs;have had:upd F1 ad (.tup [.int c,.int c']) ad=some (.tup<|([Sum.inl c,Sum.inl c']:List Key).map kV):=cG;have ho:s3.heap.get? l=some o:=(I3.hok l _ g3).1;have ktH:=kt.keeps λb ys e=>S3.sub _ _ e
 have dd:s3.heap.DictOfH (Aq<|fJ X.prog X.w) l ts:=⟨o,es,ep,ho,t1,t2,t3,KT.all I3.hok ktH,t4⟩;have hz:ts.length<=AN:=by rw[<-Paired.length kt];exact z
 have zl:(ks.zip<|ls.map V.ref).length=dss.length:=by rw[kM,aA,<-hkl,qA,hkl,g4.len]
 have vn:lQ (ks.zip<|ls.map V.ref) [Sum.inl c,Sum.inl c']=none:=aAi hk λ_ z=>z
 have hl2:(aLO (ks.zip<|ls.map V.ref) [Sum.inl c,Sum.inl c']<|.ref a).length<=AN:=by rw[wO _ vn,aQ,zl];have:=gQ hl;show dss.length+1<=AN;omega
 refine wpAny_setItem_heap (hsz:=hz) (BG hu) (tW I3.hok<|S3.sub _ _ had) dd λh' dd' hsm=> ?_
 obtain⟨q,es',ep',hq,u2,u3,u4,_,u5⟩:=dd';have I4:=vR (t':=s3.toks+(Aq<|fJ X.prog X.w).draws [Sum.inl c,Sum.inl c']) I3 (ob:=exO l q) (by rw[g3];exact True.intro) hsm ⟨q,hq⟩<|xP hq;have kt':=kt.put [Sum.inl c,Sum.inl c'] had (show RelV (.ref a) (.ref a) from rfl);rw[wO _ vn] at kt' hl2;exact⟨σ,_,I4,_,_,S3.newW (o:=q) (k:=[Sum.inl c,Sum.inl c']) hs fa3 ha3 (rl.mono sF3) na (λv z=>by rw[u3] at z;cases z) ⟨hl2,hm,_,kt',es',ep',u2,u3,u4,u5⟩,sF1.trans sF3,hE a⟩
noncomputable def rkK(r:Int×Int):List Key:=[Sum.inl r.1,Sum.inl r.2]
theorem aKE{a b:Int×Int}(h:rkK a=rkK b):a=b:=by
 unfold rkK at h;injection h with h1 h2
 injection h2 with h2 _
 injection h1 with h1
 injection h2 with h2
 exact Prod.ext h1 h2
noncomputable abbrev WtT:=List<|(Int×Int)×List Pr2
structure Wt where
 l:BJ
 ls:List BJ
 T:WtT
noncomputable def wtK(T:WtT):List (List Key):=T.map λt=>rkK t.1
noncomputable def wtD(T:WtT):List (List D):=T.map λt=>t.2.map p2D
noncomputable def wtS(P:AD)(w:AL)(K:aB)(a:Wt):Slot:=odG P w K a.l (wtK a.T) a.ls<|wtD a.T
noncomputable def wtL(P:AD)(w:AL)(K:aB):Lent K:=⟨Wt,Wt.l,λa=>a.l::a.ls,λa=>Gg P w K a.l (wtK a.T) a.ls<|wtD a.T,λh=>h.1⟩
theorem aHN(P:AD)(w:AL)(K:aB)(a:Wt)(v:V)(F H:Hp)(b:BJ)(o:HO)(h:(wtL P w K).G a v F H)(hb:b∈(wtL P w K).own a)(e:H b=some o):¬ aGC o:=by
 obtain⟨_,⟨ob,g,_⟩,hI⟩:=h
 rcases aW.mp (show b∈a.l::a.ls from hb) with rfl|hb
 ·rw[g] at e;cases e;exact λz=>z
 ·obtain⟨xs,g2⟩:=InD.of hI b hb;rw[g2] at e;cases e;exact λz=>z
noncomputable def lC:WtT->Int×Int->Pr2->WtT
 |[],r,x=>[(r,[x])]
 |t::T,r,x=>if t.1=r then(t.1,t.2++[x])::T else t::lC T r x
theorem wC{r:Int×Int}(x:Pr2):∀ {T:WtT},rkK r∉wtK T->lC T r x=T++[(r,[x])]
 |[],_=>rfl
 |t::T,h=>by
  have h1:t.1≠r:=λe=>h (by unfold wtK;rw[aZ,e];exact aH)
  show(if t.1=r then _ else t::lC T r x)=_;rw[if_neg h1,wC x (T:=T) λz=>h<|aI _ z];rfl
theorem yL{r:Int×Int}(x:Pr2):∀ {T:WtT}{n:Nat}{ds:List D},(wtK T).Nodup->(wtK T)[n]? =some (rkK r)->(wtD T)[n]? =some ds->wtK (lC T r x)=wtK T/\wtD (lC T r x)=(wtD T).set n (ds++[p2D x])
 |[],n,ds,_,h,_=>by simp[wtK] at h
 |t::T,0,ds,nd,h,hd=>by
  have e:t.1=r:=aKE (by simpa[wtK] using h);have e2:t.2.map p2D=ds:=by simpa[wtD] using hd
  have ea:lC (t::T) r x=(t.1,t.2++[x])::T:=if_pos e;rw[ea];refine⟨rfl, ?_⟩;show((t.2++[x]).map p2D)::wtD T=((t.2.map p2D)::wtD T).set 0 _;rw[aJ,e2];rfl
 |t::T,n+1,ds,nd,h,hd=>by
  have nd':=cC.mp (show(rkK t.1::wtK T).Nodup from nd);have h':(wtK T)[n]? =some (rkK r):=by simpa[wtK] using h
  have hd':(wtD T)[n]? =some ds:=by simpa[wtD] using hd
  have ne:t.1≠r:=λe=>nd'.1<|e▸bD h'
  have ea:lC (t::T) r x=t::lC T r x:=if_neg ne;obtain⟨k1,k2⟩:=yL x nd'.2 h' hd';rw[ea];refine⟨by show rkK t.1::wtK (lC T r x)=rkK t.1::wtK T;rw[k1], ?_⟩;show t.2.map p2D::wtD (lC T r x)=(t.2.map p2D::wtD T).set (n+1) _;rw[k2];rfl
theorem aKJ{r:Int×Int}(x:Pr2){T:WtT}(nd:(wtK T).Nodup):(wtK<|lC T r x).Nodup:=by
 by_cases h:rkK r∈wtK T
 ·obtain⟨n,hn⟩:=gU h
  have ln:n<T.length:=by have:=(aK.mp hn).1;simpa[wtK] using this
  obtain⟨ds,hd⟩:∃ds,(wtD T)[n]? =some ds:=⟨_,by unfold wtD;rw[bA,eM ln];rfl⟩;rw[(yL x nd hn hd).1];exact nd
 ·rw[wC x h];unfold wtK;rw[aJ];refine bK.mpr ⟨nd,by simp,λa ha b hb e=>h ?_⟩;have q:b=rkK r:=by simpa using hb
  rw[<-q,<-e];exact ha
noncomputable def tot(T:WtT):Nat:=(T.map λt=>t.2.length+1).sum
theorem aDY(r:Int×Int)(x:Pr2):∀T:WtT,tot (lC T r x)<=tot T+2
 |[]=>by simp[tot,lC]
 |t::T=>by
  have ih:=aDY r x T;show tot (if t.1=r then(t.1,t.2++[x])::T else t::lC T r x)<=_
  split
  ·simp[tot];omega
  ·simp[tot] at ih ⊢;omega
theorem aKV(T:WtT):T.length<=tot T:=by
 induction T with
 |nil=>exact aP _
 |cons t T ih=>simp[tot] at ih ⊢;omega
theorem aKe{T:WtT}:∀ds∈wtD T,ds.length<=tot T:=by
 induction T with
 |nil=>exact λds h=>(gA h).elim
 |cons t T ih=>
  intro ds h
  rcases aW.mp (show ds∈t.2.map p2D::wtD T from h) with rfl|h
  ·rw[aA];simp[tot];omega
  ·have:=ih ds h;simp[tot] at this ⊢;omega
noncomputable def nP(x:List Nat×List Nat):Pr2:=(x.1.map λ(i:Nat)=>(i:Int),x.2.map λ(i:Nat)=>(i:Int))
theorem aOL(x:List Nat×List Nat):p2D (nP x)=.tup [.tup<|bJ x.1,.tup<|bJ x.2]:=by unfold p2D nP bF bJ;rw[aR,aR];rfl
noncomputable def lgQ(p:Int×Int)(L:List SK)(b:Int)(r:Int×Int)(row nb:List Nat):Nat->WtT->WtT
 |0,T=>T
 |t+1,T=>if r.1+(L.getD t AM).2<=b then lC (lgQ p L b r row nb t T) (r.1+(L.getD t AM).2,r.2+1) (nP (row++[t],gR (hV p (L.getD t AM).1) nb)) else lgQ p L b r row nb t T
theorem aGM{p:Int×Int}{L:List SK}{b:Int}{r:Int×Int}{row nb:List Nat}{T:WtT}(nd:(wtK T).Nodup):∀t,(wtK<|lgQ p L b r row nb t T).Nodup
 |0=>nd
 |t+1=>by
  unfold lgQ
  split
  ·exact aKJ _<|aGM nd t
  ·exact aGM nd t
theorem aIt{p:Int×Int}{L:List SK}{b:Int}{r:Int×Int}{row nb:List Nat}{T:WtT}:∀t,tot (lgQ p L b r row nb t T)<=tot T+2*t
 |0=>aP _
 |t+1=>by
  have ih:=aIt (p:=p) (L:=L) (b:=b) (r:=r) (row:=row) (nb:=nb) (T:=T) t;unfold lgQ
  split
  ·have:=aDY (r.1+(L.getD t AM).2,r.2+1) (nP (row++[t],gR (hV p (L.getD t AM).1) nb))<|lgQ p L b r row nb t T;omega
  ·omega
def aQH(a:Wt)(ds:List D)(post:Wt->Prop):Prop:=∃p L b r row nb,p∈bR/\L.length<=100/\NOk p nb/\row.length<=400/\(wtK a.T).Nodup/\tot a.T+2*L.length<=900/\ds=[.lst (L.map<|mvD p),.int b,.tup [.int r.1,.int r.2],.tup<|bJ row,.tup<|bJ nb]/\post=λa'=>a'.l=a.l/\a'.T=lgQ p L b r row nb L.length a.T
noncomputable def unP(y:Pr2):List Nat×List Nat:=(y.1.map pM,y.2.map pM)
theorem aDS(x:List Nat×List Nat):unP (nP x)=x:=by
 have g:∀l:List Nat,(l.map λ(i:Nat)=>(i:Int)).map pM=l:=λl=>by rw[aR];exact(bQ λi _=>dO i).trans<|iL l
 unfold unP nP;exact Prod.ext (g x.1)<|g x.2
structure FdS where
 T:WtT
 kn:List (List Nat)
 fd:List (Int×List Nat×List Nat)
noncomputable def fdI(p:Int×Int)(L:List SK)(b:Int)(r:Int×Int)(S:FdS)(x:List Nat×List Nat):FdS:=if x.2∈S.kn then S else⟨lgQ p L b r x.1 x.2 L.length S.T,S.kn++[x.2],S.fd++[(r.1,x.1,x.2)]⟩
noncomputable def fdP(p:Int×Int)(L:List SK)(b:Int)(r:Int×Int)(S:FdS)(xs:List Pr2):FdS:=xs.foldl (λS y=>fdI p L b r S<|unP y) S
theorem vY(p:Int×Int)(L:List SK)(b:Int)(r:Int×Int)(S:FdS)(xs:List Pr2)(y:Pr2):fdP p L b r S (xs++[y])=fdI p L b r (fdP p L b r S xs) (unP y):=by unfold fdP;rw[oN];rfl
structure aOE(S:FdS):Prop where
 nk:(wtK S.T).Nodup
 kn:S.kn=S.fd.map λe=>e.2.2
 nd:S.kn.Nodup
theorem aMO{p:Int×Int}{b:Int}{r:Int×Int}{S:FdS}(h:aOE S)(x:List Nat×List Nat):aOE (fdI p L b r S x):=by
 unfold fdI
 split
 ·exact h
 ·rename_i q;refine⟨aGM h.nk _, ?_,bK.mpr ⟨h.nd,by simp,λa ha c hc e=>q ?_⟩⟩
  ·show S.kn++[x.2]=(S.fd++[(r.1,x.1,x.2)]).map _;rw[aJ,<-h.kn];rfl
  ·have hc:c=x.2:=by simpa using hc
   rw[<-hc,<-e];exact ha
def rlt(r s:Int×Int):Prop:=r.1<s.1\/(r.1=s.1/\r.2<s.2)
instance (r s:Int×Int):Decidable (rlt r s):=inferInstanceAs (Decidable<|_\/_)
noncomputable def rkD(r:Int×Int):D:=.tup [.int r.1,.int r.2]
theorem aIE(r s:Int×Int):dlt (rkD r) (rkD s)=decide (rlt r s):=by
 have e:dlt (rkD r) (rkD s)=(if deq (.int r.1) (.int s.1)=true then(if deq (.int r.2) (.int s.2)=true then false else decide (r.2<s.2)) else decide (r.1<s.1)):=rfl;have d:∀a b:Int,deq (.int a) (.int b)=decide (a=b):=λa b=>rfl
 rw[e,d,d];unfold rlt
 by_cases h1:r.1=s.1
 ·by_cases h2:r.2=s.2
  ·simp[h1,h2]
  ·simp[h1,h2]
 ·have:¬ (r.1=s.1/\r.2<s.2):=λz=>h1 z.1
  simp[h1]
theorem vE(bt:Nat->Nat->Bool):∀k,Ab bt k<=k
 |0=>aP _
 |k+1=>by
  show(if bt (k+1) (Ab bt k)=true then k+1 else Ab bt k)<=k+1
  split
  ·exact aP _
  ·exact Nat.le_succ_of_le<|vE bt k
theorem xH(rs:List (Int×Int)):∀k,k<rs.length->∀j,j<=k->¬ rlt (rs.getD j (0,0)) (rs.getD (Ab (λi k=>decide (rlt (rs.getD i (0,0))<|rs.getD k (0,0))) k) (0,0))
 |0,_,j,hj=>by
  have:j=0:=by omega
  subst this;show ¬ rlt _ (rs.getD 0 (0,0));unfold rlt;omega
 |k+1,hk,j,hj=>by
  have ih:=xH rs k (by omega);generalize hb:Ab (λi k=>decide (rlt (rs.getD i (0,0))<|rs.getD k (0,0))) k=bk at ih
  have e:Ab (λi k=>decide (rlt (rs.getD i (0,0))<|rs.getD k (0,0))) (k+1)=if decide (rlt (rs.getD (k+1) (0,0))<|rs.getD bk (0,0))=true then k+1 else bk:=by rw[<-hb];rfl
  rw[e]
  by_cases q:rlt (rs.getD (k+1) (0,0)) (rs.getD bk (0,0))
  ·rw[if_pos<|decide_eq_true q]
   by_cases hjk:j=k+1
   ·subst hjk;unfold rlt;omega
   ·have:=ih j (by omega);unfold rlt at *;omega
  ·rw[if_neg<|by rw[decide_eq_false q];decide]
   by_cases hjk:j=k+1
   ·subst hjk;exact q
   ·exact ih j<|by omega
theorem rD{bt bt':Nat->Nat->Bool}:∀k,(∀i j,i<=k->j<=k->bt i j=bt' i j)->Ab bt k=Ab bt' k
 |0,_=>rfl
 |k+1,h=>by
  have ih:=rD k λi j hi hj=>h i j (by omega)<|by omega
  show(if bt (k+1) (Ab bt k)=true then k+1 else Ab bt k)=(if bt' (k+1) (Ab bt' k)=true then k+1 else Ab bt' k);have:=vE bt' k;rw[ih,h (k+1) (Ab bt' k) (aP _)<|by omega]
theorem aND(hu:X.A.units+4<AQ){T:WtT}(hne:T≠[]):aJK X ((wtK T).map mO)/\∃t:(Int×Int)×List Pr2,T[lE<|(wtK T).map mO]? =some t/\((wtK T).map mO)[lE<|(wtK T).map mO]? =some (rkD t.1)/\(wtK T)[lE<|(wtK T).map mO]? =some (rkK t.1)/\(wtD T)[lE<|(wtK T).map mO]? =some (t.2.map p2D)/\∀s∈T,¬ rlt s.1 t.1:=by
 have l0:0<T.length:=hX.mpr hne
 have em:(wtK T).map mO=T.map λt=>rkD t.1:=by unfold wtK;rw[aR];rfl
 have ln:((wtK T).map mO).length=T.length:=by rw[em,aA]
 have mem:∀d∈(wtK T).map mO,∃r,d=rkD r:=λd hd=>by rw[em] at hd;obtain⟨t,_,rfl⟩:=aE.mp hd;exact⟨t.1,rfl⟩
 have gd:∀i,i<T.length->((wtK T).map mO).getD i .non=rkD ((T.map (·.1)).getD i (0,0)):=λi hi=>by rw[em];simp[bX,hi]
 have eb:lE ((wtK T).map mO)=Ab (λi k=>decide (rlt ((T.map (·.1)).getD i (0,0)) ((T.map (·.1)).getD k (0,0)))) (T.length-1):=by unfold lE;rw[ln];exact rD _ λi j hi hj=>by rw[gd i<|by omega,gd j<|by omega,aIE]
 have bl:=vE (λi k=>decide (rlt ((T.map (·.1)).getD i (0,0)) ((T.map (·.1)).getD k (0,0))))<|T.length-1;have bm:=xH (T.map (·.1)) (T.length-1) (by rw[aA];omega);rw[<-eb] at bl bm;generalize lE ((wtK T).map mO)=n at bl bm;have hn:n<T.length:=by omega
 have hT:T[n]? =some T[n]:=eM hn;refine⟨⟨by rw[ln];exact l0,λd hd d2 hd2=> ?_,λd hd=> ?_,λd hd=> ?_⟩,T[n],hT, ?_, ?_, ?_,λs hs=> ?_⟩
 ·obtain⟨r,rfl⟩:=mem d hd;obtain⟨r2,rfl⟩:=mem d2 hd2;rfl
 ·obtain⟨r,rfl⟩:=mem d hd;rfl
 ·obtain⟨r,rfl⟩:=mem d hd;show X.A.units+1+1<AQ;omega
 ·rw[em,bA,hT];rfl
 ·unfold wtK;rw[bA,hT];rfl
 ·unfold wtD;rw[bA,hT];rfl
 ·obtain⟨j,hj⟩:=gU hs;have lj:j<T.length:=(aK.mp hj).1;have:=bm j (by omega);have e1:(T.map (·.1)).getD j (0,0)=s.1:=by simp[bX,hj]
  have e2:(T.map (·.1)).getD n (0,0)=T[n].1:=by simp[bX,hn]
  rw[e1,e2] at this;exact this
noncomputable def llt:List Int->List Int->Bool
 |[],[]=>false
 |[],_::_=>true
 |_::_,[]=>false
 |x::a,y::b=>if x=y then llt a b else decide (x<y)
theorem aJB:∀a b:List Int,qQ (a.map D.int) (b.map D.int)=llt a b
 |[],[]=>rfl
 |[],_::_=>rfl
 |_::_,[]=>rfl
 |x::a,y::b=>by
  have e:qQ ((x::a).map D.int) ((y::b).map D.int)=if decide (x=y)=true then qQ (a.map D.int) (b.map D.int) else decide (x<y):=rfl
  rw[e,aJB a b];show _=if x=y then llt a b else decide (x<y)
  by_cases h:x=y
  ·rw[if_pos<|decide_eq_true h,if_pos h]
  ·rw[if_neg (by rw[decide_eq_false h];decide),if_neg h]
theorem qM:∀a:List Int,llt a a=false
 |[]=>rfl
 |x::a=>by show(if x=x then llt a a else decide (x<x))=false;rw[if_pos rfl];exact qM a
theorem aAN:∀a b:List Int,a≠b->llt a b=true\/llt b a=true
 |[],[],h=>absurd rfl h
 |[],_::_,_=>.inl rfl
 |_::_,[],_=>.inr rfl
 |x::a,y::b,h=>by
  show(if x=y then llt a b else decide (x<y))=true\/(if y=x then llt b a else decide (y<x))=true
  by_cases e:x=y
  ·subst e;rw[if_pos rfl,if_pos rfl];exact aAN a b λz=>h (by rw[z])
  ·rw[if_neg e,if_neg λz=>e z.symm,decide_eq_true_iff,decide_eq_true_iff];omega
theorem xK:∀a b c:List Int,llt a b=true->llt b c=true->llt a c=true
 |[],[],_,h,_=>by cases h
 |[],_::_,[],_,h=>by cases h
 |[],_::_,_::_,_,_=>rfl
 |_::_,[],_,h,_=>by cases h
 |_::_,_::_,[],_,h=>by cases h
 |x::a,y::b,z::c,h1,h2=>by
  have h1:(if x=y then llt a b else decide (x<y))=true:=h1;have h2:(if y=z then llt b c else decide (y<z))=true:=h2;show(if x=z then llt a c else decide (x<z))=true
  by_cases e1:x=y
  ·subst e1;rw[if_pos rfl] at h1
   by_cases e2:x=z
   ·subst e2;rw[if_pos rfl] at h2 ⊢;exact xK a b c h1 h2
   ·rw[if_neg e2] at h2 ⊢;exact h2
  ·rw[if_neg e1] at h1;have h1:=of_decide_eq_true h1
   by_cases e2:y=z
   ·subst e2;rw[if_neg e1];exact decide_eq_true h1
   ·rw[if_neg e2] at h2;have h2:=of_decide_eq_true h2;rw[if_neg<|by omega];exact decide_eq_true<|by omega
noncomputable def plt(x y:Pr2):Bool:=if x.1=y.1 then llt x.2 y.2 else llt x.1 y.1
theorem aMk(a b:List Int):deq (bF a) (bF b)=decide (a=b):=xL a b
theorem aPR(x y:Pr2):dlt (p2D x) (p2D y)=plt x y:=by
 have e:dlt (p2D x) (p2D y)=if deq (bF x.1) (bF y.1)=true then(if deq (bF x.2) (bF y.2)=true then false else qQ (x.2.map D.int) (y.2.map D.int)) else qQ (x.1.map D.int) (y.1.map D.int):=rfl
 rw[e,aMk,aMk,aJB,aJB];unfold plt
 by_cases h:x.1=y.1
 ·rw[if_pos<|decide_eq_true h,if_pos h]
  by_cases h2:x.2=y.2
  ·rw[if_pos<|decide_eq_true h2,h2,qM]
  ·rw[if_neg<|by rw[decide_eq_false h2];decide]
 ·rw[if_neg (by rw[decide_eq_false h];decide),if_neg h]
theorem aKt(x:Pr2):plt x x=false:=by unfold plt;rw[if_pos rfl];exact qM _
theorem aAS{x y:Pr2}(h:x≠y):plt x y=true\/plt y x=true:=by
 unfold plt
 by_cases e:x.1=y.1
 ·rw[if_pos e,if_pos e.symm];exact aAN _ _ λz=>h<|Prod.ext e z
 ·rw[if_neg e,if_neg λz=>e z.symm];exact aAN _ _ e
theorem aIK{x y z:Pr2}(h1:plt x y=true)(h2:plt y z=true):plt x z=true:=by
 unfold plt at *
 by_cases e1:x.1=y.1
 ·rw[if_pos e1] at h1
  by_cases e2:y.1=z.1
  ·rw[if_pos e2] at h2;rw[if_pos<|e1.trans e2];exact xK _ _ _ h1 h2
  ·rw[if_neg e2] at h2;rw[e1,if_neg e2];exact h2
 ·rw[if_neg e1] at h1
  by_cases e2:y.1=z.1
  ·rw[<-e2,if_neg e1];exact h1
  ·rw[if_neg e2] at h2
   by_cases e3:x.1=z.1
   ·have:=xK _ _ _ h1 h2;rw[e3,qM] at this;cases this
   ·rw[if_neg e3];exact xK _ _ _ h1 h2
noncomputable def rkP(ps:List Pr2)(x:Pr2):Nat:=(ps.filter λy=>plt y x).length
theorem yO{x y:Pr2}(hx:x∈ps)(h:plt x y=true):rkP ps x<rkP ps y:=by
 unfold rkP
 have e:ps.filter (λz=>plt z x)=(ps.filter λz=>plt z y).filter λz=>plt z x:=by
  rw[List.filter_filter];refine uT λz _=> ?_
  cases q:plt z x with
  |false=>rfl
  |true=>rw[aIK q h];rfl
 rw[e];refine List.length_filter_lt_length_iff_exists.mpr ⟨x,eZ.mpr ⟨hx,h⟩, ?_⟩;rw[aKt];decide
theorem aOj(nd:ps.Nodup)(hl:ps.length<=10000)(hu:A.units+8<AQ):SrtP A ps (rkP ps):=by
 have key:∀x∈ps,∀y∈ps,x≠y->rkP ps x≠rkP ps y:=λx hx y hy ne=>by
  rcases aAS ne with h|h
  ·exact bS<|yO hx h
  ·exact lK<|yO hy h
 refine⟨hl,λx hx y hy=> ?_, ?_,hu⟩
 ·rw[aPR];cases h:plt x y with
  |true=>exact(decide_eq_true<|yO hx h).symm
  |false=>
   refine(decide_eq_false λq=> ?_).symm
   by_cases e:x=y
   ·rw[e] at q;omega
   ·rcases aAS e with z|z
    ·rw[h] at z;cases z
    ·have:=yO hy z;omega
 ·unfold List.Nodup;rw[eC];exact List.Pairwise.imp_of_mem (λ{a b} ha hb h=>key a ha b hb h) nd
noncomputable def aJu(x:Pr2):List Pr2->List Pr2
 |[]=>[x]
 |y::l=>if plt x y then x::y::l else y::aJu x l
noncomputable def jP:List Pr2->List Pr2
 |[]=>[]
 |x::l=>aJu x<|jP l
theorem uA(x:Pr2):∀l,(aJu x l).Perm (x::l)
 |[]=>.refl _
 |y::l=>by
  show(if plt x y then x::y::l else y::aJu x l).Perm _
  split
  ·exact .refl _
  ·exact((uA x l).cons y).trans<|.swap x y l
theorem iY:∀l,(jP l).Perm l
 |[]=>.refl _
 |x::l=>(uA x<|jP l).trans<|(iY l).cons x
theorem aEq{x:Pr2}:∀ {l:List Pr2},x∉l->l.Pairwise (λa b=>plt a b=true)->(aJu x l).Pairwise (λa b=>plt a b=true)
 |[],_,_=>by simp[aJu]
 |y::l,h,p=>by
  obtain⟨p1,p2⟩:=dR.mp p;show(if plt x y then x::y::l else y::aJu x l).Pairwise _
  by_cases q:plt x y=true
  ·rw[if_pos q];refine dR.mpr ⟨λz hz=> ?_,p⟩
   rcases aW.mp hz with rfl|hz
   ·exact q
   ·exact aIK q<|p1 z hz
  ·rw[if_neg q];refine dR.mpr ⟨λz hz=> ?_,aEq (λz=>h<|aI _ z) p2⟩
   rcases aW.mp ((uA x l).mem_iff.mp hz) with rfl|hz
   ·rcases aAS (x:=z) (y:=y) (λe=>h<|e▸aH) with w|w
    ·exact absurd w q
    ·exact w
   ·exact p1 z hz
theorem aBb:∀ {l:List Pr2},l.Nodup->(jP l).Pairwise (λa b=>plt a b=true)
 |[],_=>List.Pairwise.nil
 |x::l,h=>by obtain⟨h1,h2⟩:=cC.mp h;exact aEq (λz=>h1<|(iY l).mem_iff.mp z)<|aBb h2
theorem aKH{qs:List Pr2}(nd:ps.Nodup)(hp:qs.Perm ps)(hs:(qs.map<|rkP ps).Pairwise (·<·)):qs=jP ps:=by refine List.Perm.eq_of_pairwise (le:=λx y=>rkP ps x<rkP ps y) (λx y _ _ h1 h2=>by omega) (by rw[eC] at hs;exact hs) ?_ (hp.trans (iY ps).symm);exact List.Pairwise.imp_of_mem (λ{a b} ha _ h=>yO ((iY ps).mem_iff.mp ha) h)<|aBb nd
noncomputable def gJ(T:WtT):Nat:=lE<|(wtK T).map mO
noncomputable def fdT(p:Int×Int)(L:List SK)(b:Int)(S:FdS):FdS:=match S.T[gJ S.T]? with
 |none=>S
 |some t=>fdP p L b t.1 {S with T:=S.T.eraseIdx (gJ S.T)} (jP t.2)
noncomputable def mQ(p:Int×Int)(L:List SK)(b:Int):Nat->FdS->FdS
 |0,S=>S
 |k+1,S=>if S.T=[] then S else mQ p L b k (fdT p L b S)
noncomputable def inR(row:List Nat):List Int:=row.map λ(i:Nat)=>(i:Int)
theorem aLp{a b:List Nat}(h:inR a=inR b):a=b:=by
 have:(inR a).map pM=(inR b).map pM:=by rw[h]
 have g:∀l:List Nat,(inR l).map pM=l:=λl=>by unfold inR;rw[aR];exact(bQ λi _=>dO i).trans<|iL l
 rwa[g,g] at this
noncomputable def rwP(y:Pr2):List Nat:=(unP y).1
noncomputable def itP(p:Int×Int)(L:List SK)(row:List Nat):Pr2:=nP (row,nrQ p L row)
theorem qW(p:Int×Int)(L:List SK)(row:List Nat):rwP (itP p L row)=row:=by unfold rwP itP;rw[aDS]
theorem aLW(p:Int×Int)(L:List SK)(row:List Nat):unP (itP p L row)=(row,nrQ p L row):=aDS _
noncomputable def rkR(L:List SK)(row:List Nat):Int×Int:=(S45.prQ (prK L) row,(row.length:Int))
def klt(L:List SK)(a c:List Nat):Prop:=rlt (rkR L a) (rkR L c)\/(rkR L a=rkR L c/\llt (inR a) (inR c)=true)
def kle(L:List SK)(a c:List Nat):Prop:=a=c\/klt L a c
theorem aNw{a b c:Int×Int}(h:rlt a b)(h2:rlt b c):rlt a c:=by unfold rlt at *;omega
theorem aLs{a b:Int×Int}(h:a≠b)(h2:¬ rlt b a):rlt a b:=by
 obtain⟨a1,a2⟩:=a;obtain⟨b1,b2⟩:=b;unfold rlt at *;have:¬ (a1=b1/\a2=b2):=λz=>h (by rw[z.1,z.2])
 simp only at *;omega
theorem vF(L:List SK)(a:List Nat):¬ klt L a a:=by
 rintro(h|⟨_,h⟩)
 ·unfold rlt at h;omega
 ·rw[qM] at h;cases h
theorem aBw{a b c:List Nat}(h:klt L a b)(h2:klt L b c):klt L a c:=by
 rcases h with h|⟨e,h⟩<;>rcases h2 with h2|⟨e2,h2⟩
 ·exact .inl<|aNw h h2
 ·exact .inl<|e2▸h
 ·exact .inl<|e▸h2
 ·exact .inr ⟨e.trans e2,xK _ _ _ h h2⟩
theorem aII{a b c:List Nat}(h:kle L a b)(h2:kle L b c):kle L a c:=by
 rcases h with rfl|h
 ·exact h2
 ·rcases h2 with rfl|h2
  ·exact .inr h
  ·exact .inr<|aBw h h2
theorem aBT{x:Int}:∀ {a b:List Int},a.length=b.length->llt a b=true->llt (a++[x]) (b++[x])=true
 |[],[],_,h=>by cases h
 |[],_::_,h,_=>by cases h
 |_::_,[],h,_=>by cases h
 |u::a,v::b,hl,h=>by
  have h:(if u=v then llt a b else decide (u<v))=true:=h;show(if u=v then llt (a++[x]) (b++[x]) else decide (u<v))=true
  by_cases e:u=v
  ·rw[if_pos e] at h ⊢;exact aBT (by simpa using hl) h
  ·rw[if_neg e] at h ⊢;exact h
theorem qJ(L:List SK)(a:List Nat)(k:Nat):rkR L (a++[k])=((rkR L a).1+prK L k,(rkR L a).2+1):=by unfold rkR;rw[S45.pr_snoc,aQ];rfl
theorem aHL{a c:List Nat}(k:Nat)(h:kle L a c):kle L (a++[k]) (c++[k]):=by
 rcases h with rfl|h|⟨e,h⟩
 ·exact .inl rfl
 ·refine .inr<|.inl ?_;rw[qJ,qJ];unfold rlt at *;simp only;omega
 ·refine .inr (.inr ⟨by rw[qJ,qJ,e], ?_⟩)
  have el:a.length=c.length:=by have:=congrArg Prod.snd e;have:(a.length:Int)=(c.length:Int):=this;omega
  show llt ((a++[k]).map λ(i:Nat)=>(i:Int)) ((c++[k]).map λ(i:Nat)=>(i:Int))=true;rw[aJ,aJ];exact aBT (by rw[aA,aA];exact el) h
noncomputable def wrR(T:WtT):List (List Nat):=T.flatMap λt=>t.2.map rwP
theorem wrR_mem{T:WtT}{row:List Nat}:row∈wrR T↔∃t∈T,∃y∈t.2,rwP y=row:=by
 unfold wrR;rw[eI]
 constructor
 ·rintro⟨t,ht,h⟩;obtain⟨y,hy,e⟩:=aE.mp h;exact⟨t,ht,y,hy,e⟩
 ·rintro⟨t,ht,y,hy,e⟩;exact⟨t,ht,aE.mpr ⟨y,hy,e⟩⟩
theorem aAk(r:Int×Int)(x:Pr2):∀T:WtT,(wrR<|lC T r x).Perm (rwP x::wrR T)
 |[]=>.refl _
 |t::T=>by
  show(wrR (if t.1=r then(t.1,t.2++[x])::T else t::lC T r x)).Perm _
  split
  ·show((t.2++[x]).map rwP++wrR T).Perm (rwP x::(t.2.map rwP++wrR T));rw[aJ,eA];exact pH
  ·show(t.2.map rwP++wrR (lC T r x)).Perm (rwP x::(t.2.map rwP++wrR T));exact((aAk r x T).append_left _).trans pH
theorem aCy{r:Int×Int}{x:Pr2}:∀ {T:WtT}{t':(Int×Int)×List Pr2},(∀t∈T,t.2≠[])->t'∈lC T r x->t'.2≠[]/\∀y∈t'.2,(y=x/\t'.1=r)\/∃t∈T,t.1=t'.1/\y∈t.2
 |[],t',_,h=>by
  have:t'=(r,[x]):=by simpa[lC] using h
  subst this;exact⟨by simp,λy hy=>.inl ⟨by simpa using hy,rfl⟩⟩
 |t::T,t',hn,h=>by
  have h:t'∈(if t.1=r then(t.1,t.2++[x])::T else t::lC T r x):=h
  by_cases e:t.1=r
  ·rw[if_pos e] at h
   rcases aW.mp h with rfl|h
   ·refine⟨by simp,λy hy=> ?_⟩
    rcases aU.mp hy with hy|hy
    ·exact .inr ⟨t,aH,rfl,hy⟩
    ·exact .inl ⟨by simpa using hy,e⟩
   ·exact⟨hn _<|aI _ h,λy hy=>.inr ⟨t',aI _ h,rfl,hy⟩⟩
  ·rw[if_neg e] at h
   rcases aW.mp h with rfl|h
   ·exact⟨hn _ aH,λy hy=>.inr ⟨t',aH,rfl,hy⟩⟩
   ·obtain⟨h1,h2⟩:=aCy (λz hz=>hn z<|aI _ hz) h;exact⟨h1,λy hy=>(h2 y hy).imp id λ⟨z,hz,q⟩=>⟨z,aI _ hz,q⟩⟩
variable {p:Int×Int}{b:Int}{r:Int×Int}{row nb:List Nat}{T:WtT}
noncomputable def chs(L:List SK)(b:Int)(r:Int×Int)(row:List Nat)(n:Nat):List (List Nat):=((bO n).filter λk=>decide<|r.1+prK L k<=b).map λk=>row++[k]
theorem chs_mem{c:List Nat}:c∈chs L b r row n↔∃k,k<n/\r.1+prK L k<=b/\c=row++[k]:=by
 unfold chs;rw[aE]
 constructor
 ·rintro⟨k,hk,rfl⟩;obtain⟨h1,h2⟩:=eZ.mp hk;exact⟨k,bP.mp h1,of_decide_eq_true h2,rfl⟩
 ·rintro⟨k,h1,h2,rfl⟩;exact⟨k,eZ.mpr ⟨bP.mpr h1,decide_eq_true h2⟩,rfl⟩
theorem aOb(n:Nat):(chs L b r row n).Nodup:=by unfold chs List.Nodup;rw[eC];refine List.Pairwise.imp (λ{a c} h e=>h ?_) (List.Pairwise.filter _<|pG (n:=n));simpa using List.append_cancel_left e
theorem aEC:∀n:Nat,(wrR<|lgQ p L b r row nb n T).Perm (chs L b r row n++wrR T)
 |0=>.refl _
 |n+1=>by
  have ih:=aEC n
  have ec:chs L b r row (n+1)=chs L b r row n++(if r.1+prK L n<=b then[row++[n]] else[]):=by
   unfold chs;rw[aLI,aHY,aJ];congr 1
   by_cases h:r.1+prK L n<=b
   ·simp[h]
   ·simp[h]
  rw[ec];show(wrR (if r.1+(L.getD n AM).2<=b then lC _ _ _ else _)).Perm _
  by_cases h:r.1+prK L n<=b
  ·rw[if_pos h,if_pos (show r.1+(L.getD n AM).2<=b from h)];refine(aAk _ _ _).trans ?_
   have e:rwP (nP (row++[n],gR (hV p (L.getD n AM).1) nb))=row++[n]:=by unfold rwP;rw[aDS]
   rw[e,eA];exact(ih.cons _).trans pH.symm
  ·rw[if_neg h,if_neg (show ¬ r.1+(L.getD n AM).2<=b from h),cY];exact ih
theorem aBK:∀ (n:Nat) {t':(Int×Int)×List Pr2},(∀t∈T,t.2≠[])->t'∈lgQ p L b r row nb n T->t'.2≠[]/\∀y∈t'.2,(∃k,k<n/\r.1+prK L k<=b/\t'.1=(r.1+prK L k,r.2+1)/\y=nP (row++[k],gR (hV p (L.getD k AM).1) nb))\/∃t∈T,t.1=t'.1/\y∈t.2
 |0,t',hn,h=>⟨hn t' h,λy hy=>.inr ⟨t',h,rfl,hy⟩⟩
 |n+1,t',hn,h=>by
  have h:t'∈(if r.1+(L.getD n AM).2<=b then lC (lgQ p L b r row nb n T) (r.1+(L.getD n AM).2,r.2+1) (nP (row++[n],gR (hV p (L.getD n AM).1) nb)) else lgQ p L b r row nb n T):=h;have old:∀t∈lgQ p L b r row nb n T,t.2≠[]:=λt ht=>(aBK n hn ht).1
  by_cases q:r.1+(L.getD n AM).2<=b
  ·rw[if_pos q] at h;obtain⟨h1,h2⟩:=aCy old h;refine⟨h1,λy hy=> ?_⟩
   rcases h2 y hy with⟨e1,e2⟩|⟨t,ht,e,hy2⟩
   ·exact .inl ⟨n,by omega,q,e2,e1⟩
   ·rcases(aBK n hn ht).2 y hy2 with⟨k,k1,k2,k3,k4⟩|⟨s,s1,s2,s3⟩
    ·exact .inl ⟨k,by omega,k2,e▸k3,k4⟩
    ·exact .inr ⟨s,s1,s2.trans e,s3⟩
  ·rw[if_neg q] at h;obtain⟨h1,h2⟩:=aBK n hn h;exact⟨h1,λy hy=>(h2 y hy).imp (λ⟨k,k1,k2⟩=>⟨k,by omega,k2⟩) id⟩
theorem aJk:∀ {T:WtT},(∀t∈T,t.2≠[])->tot T<=2*(wrR T).length
 |[],_=>aP _
 |t::T,h=>by
  have ih:=aJk (T:=T) λz hz=>h z<|aI _ hz
  have h1:0<t.2.length:=hX.mpr<|h t aH;have e1:tot (t::T)=(t.2.length+1)+tot T:=by simp[tot]
  have e2:(wrR (t::T)).length=t.2.length+(wrR T).length:=by show(t.2.map rwP++wrR T).length=_;rw[aQ,aA]
  omega
structure FewR(L:List SK)(b:Int)(U:List (List Nat)):Prop where
 len:U.length<=400
 rl:∀row∈U,row.length<=300
 all:∀row,fX L row->S45.prQ (prK L) row<=b->row∈U
def Cov(p:Int×Int)(L:List SK)(S:FdS)(rest:List Pr2)(row:List Nat):Prop:=row∈wrR S.T\/row∈rest.map rwP\/∃e∈S.fd,e.2.2=nrQ p L row/\kle L e.2.1 row
structure Wk(p:Int×Int)(L:List SK)(b:Int)(dn:List (List Nat))(r:Int×Int)(rest:List Pr2)(S:FdS):Prop where
 ok:aOE S
 ne:∀t∈S.T,t.2≠[]
 wt:∀t∈S.T,∀y∈t.2,∃row,y=itP p L row/\fX L row/\t.1=rkR L row/\t.1.1<=b
 rs:∀y∈rest,∃row,y=itP p L row/\fX L row/\r=rkR L row/\r.1<=b
 up:rest.Pairwise λx y=>plt x y=true
 gt:rest≠[]->∀t∈S.T,rlt r t.1
 nd:(dn++rest.map rwP++wrR S.T).Nodup
 fd:∀e∈S.fd,e.2.1∈dn/\fX L e.2.1/\e.1=S45.prQ (prK L) e.2.1/\e.1<=b/\e.2.2=nrQ p L e.2.1
 par:∀row,row∈dn++rest.map rwP++wrR S.T->row=[]\/∃q k,row=q++[k]/\q∈S.fd.map λe=>e.2.1
 du:∀row∈dn,fX L row/\S45.prQ (prK L) row<=b
 srt:(S.fd.map λe=>e.2.1).Pairwise (klt L)
 lt1:∀e∈S.fd,∀y∈rest,klt L e.2.1<|rwP y
 lt2:∀e∈S.fd,∀row∈wrR S.T,klt L e.2.1 row
 cl:∀e∈S.fd,∀k,k<L.length->e.1+prK L k<=b->Cov p L S rest (e.2.1++[k])
 st:0<=b->Cov p L S rest []
variable {dn:List (List Nat)}{rest:List Pr2}{S:FdS}{U:List (List Nat)}
theorem Wk.all(W:Wk p L b dn r rest S)(F:FewR L b U):∀row∈dn++rest.map rwP++wrR S.T,row∈U:=λrow h=>by
 rcases aU.mp h with h|h
 ·rcases aU.mp h with h|h
  ·obtain⟨h1,h2⟩:=W.du row h;exact F.all row h1 h2
  ·obtain⟨y,hy,e⟩:=aE.mp h;obtain⟨q,rfl,q2,q3,q4⟩:=W.rs y hy;rw[qW] at e;subst e;exact F.all q q2 (by rw[q3] at q4;exact q4)
 ·obtain⟨t,ht,y,hy,e⟩:=wrR_mem.mp h;obtain⟨q,rfl,q2,q3,q4⟩:=W.wt t ht y hy;rw[qW] at e;subst e;exact F.all q q2 (by rw[q3] at q4;exact q4)
theorem Wk.few(W:Wk p L b dn r rest S)(F:FewR L b U):dn.length+rest.length+(wrR S.T).length<=U.length:=by have:=W.nd.length_le_of_subset<|W.all F;rw[aQ,aQ,aA] at this;exact this
theorem Wk.tot(W:Wk p L b dn r rest S)(F:FewR L b U):tot S.T<=800:=by have:=aJk W.ne;have:=W.few F;have:=F.len;omega
theorem Wk.fdl(W:Wk p L b dn r rest S)(F:FewR L b U):S.fd.length<=400:=by
 have nd:(S.fd.map λe=>e.2.1).Nodup:=List.Pairwise.imp (S:=(·≠·)) (λ{a c} h e=>vF L a<|by rw[<-e] at h;exact h) W.srt
 have:=nd.length_le_of_subset (l₂:=dn) λrow h=>by obtain⟨e,he,rfl⟩:=aE.mp h;exact(W.fd e he).1
 rw[aA] at this;have:=W.few F;have:=F.len;omega
theorem Wk.step(hpr:∀k,k<L.length->1<=prK L k){y:Pr2}(W:Wk p L b dn r (y::rest) S):Wk p L b (dn++[rwP y]) r rest (fdI p L b r S<|unP y):=by
 obtain⟨row,ey,ro,er,rb⟩:=W.rs y aH;subst ey;have up:=dR.mp W.up;have rp:S45.prQ (prK L) row<=b:=by rw[er] at rb;exact rb
 rw[aLW];have ew:(itP p L row::rest).map rwP=row::rest.map rwP:=by rw[aZ,qW]
 have nd:=W.nd;have par:=W.par;rw[ew] at nd par;have e1:dn++row::rest.map rwP=(dn++[row])++rest.map rwP:=by simp
 rw[e1] at nd par;rw[qW]
 have cv:∀c,Cov p L S (itP p L row::rest) c->c=row\/Cov p L S rest c:=λc h=>by
  rcases h with h|h|h
  ·exact .inr<|.inl h
  ·rw[ew] at h
   rcases aW.mp h with h|h
   ·exact .inl h
   ·exact .inr (.inr<|.inl h)
  ·exact .inr (.inr<|.inr h)
 have du:∀c∈dn++[row],fX L c/\S45.prQ (prK L) c<=b:=λc h=>by
  rcases aU.mp h with h|h
  ·exact W.du c h
  ·rw[aN.mp h];exact⟨ro,rp⟩
 have rs:∀y∈rest,∃row,y=itP p L row/\fX L row/\r=rkR L row/\r.1<=b:=λz hz=>W.rs z<|aI _ hz
 have gt:=W.gt (by simp);unfold fdI
 by_cases hk:nrQ p L row∈S.kn
 ·rw[if_pos hk];rw[W.ok.kn] at hk;obtain⟨e,he,en⟩:=aE.mp hk
  have ke:klt L e.2.1 row:=by have:=W.lt1 e he _ aH;rw[qW] at this;exact this
  have cv2:∀c,Cov p L S (itP p L row::rest) c->Cov p L S rest c:=λc h=>by
   rcases cv c h with rfl|h
   ·exact .inr<|.inr ⟨e,he,en,.inr ke⟩
   ·exact h
  exact⟨W.ok,W.ne,W.wt,rs,up.2,λ_=>gt,nd,λe he=>⟨bN _ (W.fd e he).1,(W.fd e he).2⟩,par,du,W.srt,λe he z hz=>W.lt1 e he z<|aI _ hz,W.lt2,λe he k hk hle=>cv2 _<|W.cl e he k hk hle,λh=>cv2 _<|W.st h⟩
 ·have ok:=aMO (p:=p) (L:=L) (b:=b) (r:=r) W.ok (row,nrQ p L row);unfold fdI at ok;rw[if_neg hk] at ok ⊢;have pm:=aEC (p:=p) (L:=L) (b:=b) (r:=r) (row:=row) (nb:=nrQ p L row) (T:=S.T) L.length;have lm:=λt' h=>aBK (p:=p) (L:=L) (b:=b) (r:=r) (row:=row) (nb:=nrQ p L row) (T:=S.T) L.length (t':=t') W.ne h
  have rno:row∉S.fd.map λe=>e.2.1:=λh=>by obtain⟨e,he,ee⟩:=aE.mp h;have:=(W.fd e he).1;rw[ee] at this;have n2:=(bK.mp (bK.mp nd).1).1;exact(bK.mp n2).2.2 row this row (by simp) rfl
  have mem':∀c,c∈wrR (lgQ p L b r row (nrQ p L row) L.length S.T)↔c∈chs L b r row L.length\/c∈wrR S.T:=λc=>by rw[pm.mem_iff,aU]
  have ch_lt:∀c∈chs L b r row L.length,klt L row c:=λc h=>by obtain⟨k,k1,k2,rfl⟩:=chs_mem.mp h;refine .inl ?_;rw[qJ];have:=hpr k k1;unfold rlt;simp only;omega
  have T_lt:∀c∈wrR S.T,klt L row c:=λc h=>by obtain⟨t,ht,y,hy,e⟩:=wrR_mem.mp h;obtain⟨q,rfl,q2,q3,q4⟩:=W.wt t ht y hy;rw[qW] at e;subst e;refine .inl ?_;rw[<-er,<-q3];exact gt t ht
  have rest_lt:∀z∈rest,klt L row (rwP z):=λz hz=>by
   obtain⟨q,rfl,q2,q3,q4⟩:=rs z hz;rw[qW];refine .inr ⟨er.symm.trans q3, ?_⟩;have:=up.1 _ hz;unfold plt at this
   by_cases e:(itP p L row).1=(itP p L q).1
   ·exfalso;have e2:row=q:=aLp e;subst e2;rw[if_pos rfl,qM] at this;cases this
   ·rw[if_neg e] at this;exact this
  have cvn:∀c,Cov p L S (itP p L row::rest) c->Cov p L ⟨lgQ p L b r row (nrQ p L row) L.length S.T,S.kn++[nrQ p L row],S.fd++[(r.1,row,nrQ p L row)]⟩ rest c:=λc h=>by
   rcases cv c h with rfl|h|h|⟨e,he,q⟩
   ·exact .inr<|.inr ⟨(r.1,c,nrQ p L c),aM _<|cR _,rfl,.inl rfl⟩
   ·exact .inl ((mem' c).mpr<|.inr h)
   ·exact .inr<|.inl h
   ·exact .inr<|.inr ⟨e,bN _ he,q⟩
  have efd:(S.fd++[(r.1,row,nrQ p L row)]).map (λe=>e.2.1)=S.fd.map (λe=>e.2.1)++[row]:=by rw[aJ];rfl
  refine⟨ok,λt h=>(lm t h).1,λt ht y hy=> ?_,rs,up.2,λ_ t ht=> ?_, ?_,λe he=> ?_,λc hc=> ?_,du, ?_,λe he z hz=> ?_,λe he c hc=> ?_,λe he k hk hle=> ?_,λh=>cvn _<|W.st h⟩
  ·rcases(lm t ht).2 y hy with⟨k,k1,k2,k3,k4⟩|⟨s,s1,s2,s3⟩
   ·refine⟨row++[k],by rw[k4];unfold itP;rw[vP],λi hi=> ?_,by rw[k3,qJ,er],by rw[k3];exact k2⟩
    rcases aU.mp hi with hi|hi
    ·exact ro i hi
    ·rw[aN.mp hi];exact k1
   ·rw[<-s2];exact W.wt s s1 y s3
  ·obtain⟨h1,h2⟩:=lm t ht;obtain⟨y,hy⟩:=List.exists_mem_of_ne_nil _ h1
   rcases h2 y hy with⟨k,k1,k2,k3,k4⟩|⟨s,s1,s2,s3⟩
   ·rw[k3];have:=hpr k k1;unfold rlt;simp only;omega
   ·rw[<-s2];exact gt s s1
  ·have pm2:((dn++[row]++rest.map rwP)++wrR (lgQ p L b r row (nrQ p L row) L.length S.T)).Perm (chs L b r row L.length++((dn++[row]++rest.map rwP)++wrR S.T)):=(pm.append_left _).trans (by
    rw[<-eA,<-eA (chs L b r row L.length)]
    exact jH.append_right _)
   refine pm2.nodup_iff.mpr<|bK.mpr ⟨aOb _,nd,λc hc d hd e=> ?_⟩;subst e;obtain⟨k,k1,k2,rfl⟩:=chs_mem.mp hc
   rcases par _ hd with h|⟨q,j,h1,h2⟩
   ·simp at h
   ·have:row=q:=(List.append_inj' h1 rfl).1;subst this;exact rno h2
  ·rcases aU.mp he with he|he
   ·exact⟨bN _ (W.fd e he).1,(W.fd e he).2⟩
   ·rw[aN.mp he];exact⟨aM _<|cR _,ro,by rw[er];rfl,rb,rfl⟩
  ·rw[efd]
   have h:c∈dn++[row]++rest.map rwP++wrR S.T\/c∈chs L b r row L.length:=by
    rcases aU.mp hc with h|h
    ·exact .inl<|bN _ h
    ·rcases(mem' c).mp h with h|h
     ·exact .inr h
     ·exact .inl<|aM _ h
   rcases h with h|h
   ·exact(par c h).imp id λ⟨q,k,h1,h2⟩=>⟨q,k,h1,bN _ h2⟩
   ·obtain⟨k,_,_,rfl⟩:=chs_mem.mp h;exact .inr ⟨row,k,rfl,aM _<|cR _⟩
  ·rw[efd];refine eX.mpr ⟨W.srt,kZ _ _,λa ha c hc=> ?_⟩;rw[aN.mp hc];obtain⟨e,he,rfl⟩:=aE.mp ha;have:=W.lt1 e he _ aH;rw[qW] at this;exact this
  ·rcases aU.mp he with he|he
   ·exact W.lt1 e he z<|aI _ hz
   ·rw[aN.mp he];exact rest_lt z hz
  ·rcases aU.mp he with he|he
   ·rcases(mem' c).mp hc with h|h
    ·have:=W.lt1 e he _ aH;rw[qW] at this;exact aBw this<|ch_lt c h
    ·exact W.lt2 e he c h
   ·rw[aN.mp he]
    rcases(mem' c).mp hc with h|h
    ·exact ch_lt c h
    ·exact T_lt c h
  ·rcases aU.mp he with he|he
   ·exact cvn _<|W.cl e he k hk hle
   ·rw[aN.mp he] at hle ⊢;exact .inl<|(mem' _).mpr (.inl<|chs_mem.mpr ⟨k,hk,hle,rfl⟩)
theorem Wk.pop{t:(Int×Int)×List Pr2}(W:Wk p L b dn r [] S)(hn:S.T[n]? =some t)(hm:∀s∈S.T,¬ rlt s.1 t.1):t.2.Nodup/\Wk p L b dn t.1 (jP t.2) {S with T:=S.T.eraseIdx n}:=by
 have tm:=bD hn;obtain⟨nl,en⟩:=aK.mp hn
 have pT:S.T.Perm (t::S.T.eraseIdx n):=by
  have e1:S.T=S.T.take n++t::S.T.drop (n+1):=by rw[<-en,<-dJ nl,fU]
  rw[dW];exact(e1▸List.Perm.refl S.T:S.T.Perm (S.T.take n++t::S.T.drop (n+1))).trans pH
 have pw:(wrR S.T).Perm (t.2.map rwP++wrR (S.T.eraseIdx n)):=pT.flatMap_right _;have ps:((jP t.2).map rwP).Perm (t.2.map rwP):=(iY t.2).map _;have nd:=W.nd;rw[fD,cY] at nd
 have pall:(dn++(jP t.2).map rwP++wrR (S.T.eraseIdx n)).Perm (dn++wrR S.T):=by rw[eA];exact((ps.append_right _).trans pw.symm).append_left _
 have ndt:t.2.Nodup:=by have h1:=(bK.mp<|pw.nodup_iff.mp (bK.mp nd).2.1).1;exact List.Pairwise.of_map _ (λa c h e=>h<|by rw[e]) h1
 have er:∀s∈S.T.eraseIdx n,s∈S.T:=λs hs=>kG hs
 have sub:∀c∈wrR (S.T.eraseIdx n),c∈wrR S.T:=λc hc=>pw.symm.mem_iff.mp<|aM _ hc
 have sub2:∀y∈jP t.2,rwP y∈wrR S.T:=λy hy=>pw.symm.mem_iff.mp (bN _<|aE.mpr ⟨y,(iY t.2).mem_iff.mp hy,rfl⟩)
 have cv:∀c,Cov p L S [] c->Cov p L {S with T:=S.T.eraseIdx n} (jP t.2) c:=λc h=>by
  rcases h with h|h|h
  ·rcases aU.mp (pw.mem_iff.mp h) with h|h
   ·exact .inr (.inl<|ps.symm.mem_iff.mp h)
   ·exact .inl h
  ·cases h
  ·exact .inr<|.inr h
 have ek:wtK (S.T.eraseIdx n)=(wtK S.T).eraseIdx n:=by unfold wtK;rw[dW,dW,aJ,lW,kH]
 refine⟨ndt,⟨by rw[ek];exact W.ok.nk.sublist<|qN _ _,W.ok.kn,W.ok.nd⟩,λs hs=>W.ne s<|er s hs,λs hs=>W.wt s<|er s hs,λy hy=>W.wt t tm y<|(iY t.2).mem_iff.mp hy,aBb ndt,λ_ s hs=> ?_,pall.nodup_iff.mpr nd,W.fd,λc hc=> ?_,W.du,W.srt,λe he y hy=>W.lt2 e he _<|sub2 y hy,λe he c hc=>W.lt2 e he c<|sub c hc,λe he k hk hle=>cv _<|W.cl e he k hk hle,λh=>cv _<|W.st h⟩
 ·refine aLs (λe=> ?_) (hm s<|er s hs);have nk:=W.ok.nk;have pk:(wtK S.T).Perm (rkK t.1::wtK (S.T.eraseIdx n)):=pT.map _;have:=(cC.mp<|pk.nodup_iff.mp nk).1;refine this ?_;rw[e];exact aE.mpr ⟨s,hs,rfl⟩
 ·refine W.par c ?_;rw[fD,cY];exact pall.mem_iff.mp hc
theorem aGX(hne:T≠[]):∃t:(Int×Int)×List Pr2,T[gJ T]? =some t/\∀s∈T,¬ rlt s.1 t.1:=by
 have l0:0<T.length:=hX.mpr hne
 have em:(wtK T).map mO=T.map λt=>rkD t.1:=by unfold wtK;rw[aR];rfl
 have ln:((wtK T).map mO).length=T.length:=by rw[em,aA]
 have gd:∀i,i<T.length->((wtK T).map mO).getD i .non=rkD ((T.map (·.1)).getD i (0,0)):=λi hi=>by rw[em];simp[bX,hi]
 have eb:gJ T=Ab (λi k=>decide (rlt ((T.map (·.1)).getD i (0,0)) ((T.map (·.1)).getD k (0,0)))) (T.length-1):=by unfold gJ lE;rw[ln];exact rD _ λi j hi hj=>by rw[gd i<|by omega,gd j<|by omega,aIE]
 have bl:=vE (λi k=>decide (rlt ((T.map (·.1)).getD i (0,0)) ((T.map (·.1)).getD k (0,0))))<|T.length-1;have bm:=xH (T.map (·.1)) (T.length-1) (by rw[aA];omega);rw[<-eb] at bl bm;generalize gJ T=n at bl bm;have hn:n<T.length:=by omega
 refine⟨T[n],eM hn,λs hs=> ?_⟩;obtain⟨j,hj⟩:=gU hs;have lj:j<T.length:=(aK.mp hj).1;have:=bm j (by omega);have e1:(T.map (·.1)).getD j (0,0)=s.1:=by simp[bX,hj]
 have e2:(T.map (·.1)).getD n (0,0)=T[n].1:=by simp[bX,hn]
 rw[e1,e2] at this;exact this
noncomputable def fd0(p:Int×Int)(b:Int):FdS:=⟨if 0<=b then[((0,0),[nP ([],st0 p)])] else[],[],[]⟩
noncomputable def bkF(p:Int×Int)(L:List SK)(b:Int):List (Int×List Nat×List Nat):=(mQ p L b 401<|fd0 p b).fd
theorem wk0(p:Int×Int)(L:List SK)(b:Int):Wk p L b [] (0,0) [] (fd0 p b):=by
 have e:nP ([],st0 p)=itP p L []:=rfl
 by_cases h:0<=b
 ·have e0:fd0 p b=⟨[((0,0),[itP p L []])],[],[]⟩:=by unfold fd0;rw[if_pos h,e]
  have ew:wrR [((0,0),[itP p L []])]=[[]]:=by show[rwP<|itP p L []]++[]=_;rw[qW];rfl
  rw[e0];refine⟨⟨by simp[wtK],rfl,eV⟩,λt ht=> ?_,λt ht y hy=> ?_,λy hy=>(nomatch hy),List.Pairwise.nil,λh=>absurd rfl h, ?_,λe he=>(nomatch he),λrow hr=> ?_,λrow hr=>(nomatch hr),List.Pairwise.nil,λe he=>(nomatch he),λe he=>(nomatch he),λe he=>(nomatch he),λ_=>.inl ?_⟩
  ·rw[aN.mp ht];simp
  ·rw[aN.mp ht] at hy ⊢;exact⟨[],aN.mp hy,λi hi=>(nomatch hi),rfl,h⟩
  ·show(wrR [((0,0),[itP p L []])]).Nodup;rw[ew];simp
  ·have hr:row∈wrR [((0,0),[itP p L []])]:=hr;rw[ew] at hr;exact .inl<|aN.mp hr
  ·show[]∈wrR [((0,0),[itP p L []])];rw[ew];exact cR _
 ·have e0:fd0 p b=⟨[],[],[]⟩:=by unfold fd0;rw[if_neg h]
  rw[e0];exact⟨⟨eV,rfl,eV⟩,λt ht=>(nomatch ht),λt ht=>(nomatch ht),λy hy=>(nomatch hy),List.Pairwise.nil,λh=>absurd rfl h,eV,λe he=>(nomatch he),λrow hr=>(nomatch hr),λrow hr=>(nomatch hr),List.Pairwise.nil,λe he=>(nomatch he),λe he=>(nomatch he),λe he=>(nomatch he),λz=>absurd z h⟩
theorem Wk.take(hpr:∀k,k<L.length->1<=prK L k)(W:Wk p L b dn r rest S):∀j,j<=rest.length->Wk p L b (dn++(rest.take j).map rwP) r (rest.drop j) (fdP p L b r S<|rest.take j)
 |0,_=>by rw[aOl,fD,cY];exact W
 |j+1,hj=>by
  have ih:=Wk.take hpr W j (by omega);have lj:j<rest.length:=by omega
  rw[dJ lj] at ih;have:=ih.step hpr;rw[<-vY] at this
  have et:rest.take (j+1)=rest.take j++[rest[j]]:=by rw[fO,eM lj];rfl
  rw[et,aJ,<-eA];exact this
theorem Wk.turn(hpr:∀k,k<L.length->1<=prK L k)(W:Wk p L b dn r [] S)(hne:S.T≠[]):∃t:(Int×Int)×List Pr2,S.T[gJ S.T]? =some t/\(∀s∈S.T,¬ rlt s.1 t.1)/\t.2.Nodup/\t.2≠[]/\Wk p L b dn t.1 (jP t.2) {S with T:=S.T.eraseIdx (gJ S.T)}/\fdT p L b S=fdP p L b t.1 {S with T:=S.T.eraseIdx (gJ S.T)} (jP t.2)/\Wk p L b (dn++(jP t.2).map rwP) t.1 [] (fdT p L b S):=by
 obtain⟨t,ht,hm⟩:=aGX hne;obtain⟨n1,W1⟩:=W.pop ht hm
 have e:fdT p L b S=fdP p L b t.1 {S with T:=S.T.eraseIdx (gJ S.T)} (jP t.2):=by unfold fdT;rw[ht]
 refine⟨t,ht,hm,n1,W.ne t<|bD ht,W1,e, ?_⟩;have:=W1.take hpr (jP t.2).length<|aP _;rw[eQ,vU] at this;rw[e];exact this
theorem aEV(hpr:∀k,k<L.length->1<=prK L k)(F:FewR L b U):∀ (m:Nat) {dn:List (List Nat)}{r:Int×Int}{S:FdS},Wk p L b dn r [] S->U.length<dn.length+m->∃dn' r',Wk p L b dn' r' [] (mQ p L b m S)/\(mQ p L b m S).T=[]
 |0,dn,r,S,W,h=>by have:=W.few F;omega
 |m+1,dn,r,S,W,h=>by
  show ∃dn' r',Wk p L b dn' r' [] (if S.T=[] then S else mQ p L b m (fdT p L b S))/\(if S.T=[] then S else mQ p L b m (fdT p L b S)).T=[]
  by_cases q:S.T=[]
  ·rw[if_pos q];exact⟨dn,r,W,q⟩
  ·rw[if_neg q];obtain⟨t,_,_,_,ne,_,_,W2⟩:=W.turn hpr q;refine aEV hpr F m W2 ?_
   have:0<(jP t.2).length:=by rw[(iY t.2).length_eq];exact hX.mpr ne
   rw[aQ,aA];omega
structure BkFOk(p:Int×Int)(L:List SK)(b:Int)(B:List (Int×List Nat×List Nat)):Prop where
 len:B.length<=400
 ent:∀e∈B,fX L e.2.1/\e.1=S45.prQ (prK L) e.2.1/\e.1<=b/\e.2.2=nrQ p L e.2.1/\e.2.1.length<=300
 nd:(B.map λe=>e.2.2).Nodup
 srt:(B.map λe=>e.2.1).Pairwise (klt L)
 cl:∀e∈B,∀k,k<L.length->e.1+prK L k<=b->∃e'∈B,e'.2.2=nrQ p L (e.2.1++[k])/\kle L e'.2.1 (e.2.1++[k])
 st:0<=b->∃e∈B,e.2.2=nrQ p L []/\kle L e.2.1 []
theorem aIR(hpr:∀k,k<L.length->1<=prK L k)(F:FewR L b U):BkFOk p L b (bkF p L b):=by
 obtain⟨dn,r,W,e⟩:=aEV hpr F 401 (wk0 p L b) (by have:=F.len;simp;omega)
 have cv:∀c,Cov p L (mQ p L b 401<|fd0 p b) [] c->∃e∈(mQ p L b 401<|fd0 p b).fd,e.2.2=nrQ p L c/\kle L e.2.1 c:=λc h=>by
  rcases h with h|h|h
  ·rw[e] at h;cases h
  ·cases h
  ·exact h
 refine⟨W.fdl F,λe he=> ?_,by have:=W.ok.nd;rw[W.ok.kn] at this;exact this,W.srt,λe he k hk hle=>cv _<|W.cl e he k hk hle,λh=>cv _<|W.st h⟩;obtain⟨h1,h2,h3,h4,h5⟩:=W.fd e he;exact⟨h2,h3,h4,h5,F.rl _ (F.all _ h2<|by rw[<-h3];exact h4)⟩
theorem BkFOk.all{B:List (Int×List Nat×List Nat)}(hpr:∀k,k<L.length->1<=prK L k)(O:BkFOk p L b B):∀row,fX L row->S45.prQ (prK L) row<=b->∃e∈B,e.2.2=nrQ p L row/\kle L e.2.1 row:=by
 have g:∀ (n:Nat) (row:List Nat),row.length=n->fX L row->S45.prQ (prK L) row<=b->∃e∈B,e.2.2=nrQ p L row/\kle L e.2.1 row:=λn=>by
  induction n with
  |zero=>intro row hl _ hb;have:row=[]:=fR hl;subst this;exact O.st hb
  |succ n ih=>
   intro row hl ho hb;have hne:row≠[]:=λz=>by rw[z] at hl;cases hl
   have ed:=mH hne;generalize row.dropLast=q at ed;generalize row.getLast hne=k at ed;subst ed;have kn:k<L.length:=ho k (by simp);have h1:=hpr k kn;rw[S45.pr_snoc] at hb;obtain⟨e,he,e1,e2⟩:=ih q (by simpa using hl) (λi hi=>ho i<|bN _ hi) (by omega);obtain⟨_,h3,_,h5,_⟩:=O.ent e he
   have le:S45.prQ (prK L) e.2.1<=S45.prQ (prK L) q:=by
    rcases e2 with z|(z|⟨z,_⟩)
    ·rw[z];exact zF _
    ·have:(rkR L e.2.1).1<=(rkR L q).1:=by unfold rlt at z;omega
     exact this
    ·exact aQQ<|congrArg Prod.fst z
   obtain⟨e',he',e3,e4⟩:=O.cl e he k kn (by omega);refine⟨e',he', ?_,aII e4<|aHL k e2⟩;rw[e3,vP,vP,<-h5,e1]
 exact λrow=>g row.length row rfl
noncomputable def fdD(e:Int×List Nat×List Nat):D:=.tup [.int e.1,.tup<|bJ e.2.1,.tup<|bJ e.2.2]
def aIz:List D->R->Prop:=λds r=>∃p L b U,p∈bR/\StkOk p L/\FewR L b U/\ds=[.lst (L.map<|mvD p),.int b,.tup (bJ<|st0 p)]/\r=.own ((bkF p L b).map fdD)
noncomputable def zP(ds:List D):List Nat:=ds.map λd=>match d with | .int i=>i.toNat|_=>0
theorem aEF(l:List Nat):zP (bJ l)=l:=by unfold zP bJ;rw[aR];exact(bQ λi _=>dO i).trans<|iL l
noncomputable def unE:D->Int×List Nat×List Nat
 |.tup [.int a,.tup r,.tup n]=>(a,zP r,zP n)
 |_=>(0,[],[])
theorem aJM(e:Int×List Nat×List Nat):unE (fdD e)=e:=by show(e.1,zP<|bJ e.2.1,zP<|bJ e.2.2)=e;rw[aEF,aEF]
noncomputable def bkQ(p:Int×Int)(L:List SK)(b:Int):List Bk:=(bkF p L b).map λe=>(e.1,e.2.1,jC p e.2.2)
def aJJ:List D->R->Prop:=λds r=>∃p L b U,p∈bR/\StkOk p L/\(L.map λs=>sqD s.1).Nodup/\FewR L b U/\ds=[cF p,.lst<|L.map skD,.int b]/\r=.own ((bkQ p L b).map enD)
def aJs(i:Int):Prop:=Builtin.Int.intBits i<=1048576
theorem xU:∀ (ns:List Int),∀i∈ns,Builtin.Int.intBits i<=PySem.W.WData.weightAll (ns.map PySem.W.WData.int)
 |[],i,h=>by cases h
 |n::ns,i,h=>by
  rw[aZ];simp only[PySem.W.WData.weightAll,PySem.W.WData.weight]
  rcases aW.mp h with rfl|h
  ·unfold Builtin.Int.intBits;omega
  ·have:=xU ns i h;omega
theorem aNN{ns:List Int}(h:PySem.W.WData.layableAll [PySem.W.WData.list<|ns.map PySem.W.WData.int]=true):∀i∈ns,aJs i:=λi hi=>by
 have h1:=bZ.mp h _ aH;unfold PySem.W.WData.layable at h1;have h2:=(eY.mp h1).2;have h3:=of_decide_eq_true h2;have e:PySem.W.WData.weight (PySem.W.WData.list<|ns.map PySem.W.WData.int)=PySem.W.WData.weightAll (ns.map PySem.W.WData.int):=by simp only[PySem.W.WData.weight]
 rw[e] at h3;exact cJ (xU ns i hi) h3
def aGO:List D->R->Prop:=λds r=>∃ns:List Int,ds=[.scr ns]/\ns.length<=63/\(∀i∈ns,aJs i)/\r=.val (.bl true)
section
open PySem.W PySem.Calls Att
theorem aAv{l:OpenLaw}{n:Nat}{q:AD}{loose:List Str}{XP:(Str->Option BH)->BL->Prop}{YP:AL->BL->Prop}{d:DefRec}
  (hn:l.most=some n) (hdf:d.params.defaults=[])
  (call:∀ (w:AL) (s₀ s₁:BI) (mg mb:Str→Option BH) (fa:BJ) (o:BM) (pm cd doc:BH) (a:BJ) (vs:List BH) (ns:List Int),
   Ground q loose [] XP w s₀ mg mb s₁.heap->YP w s₁.heap->
   s₁.heap.get? fa=some o->o.data=.func (docDef d.name d.params d.body d.scope pm cd doc)->s₁.heap.CodeRec cd d.name->mg d.name=some (.ref fa)->
   s₁.heap.get? a=some {cls:=.type "list",data:=.seq vs.toArray}->IntsAre vs ns->ns.length<=n->(∀i∈ns,aJs i)->s₁.gens= #[]->
   codeAny (AG l.prog w) callerA (.call (.ref fa) ⟨[.ref a],[]⟩) (λr s'=>r=.ok (.ret (.bool true))/\OldK s₁.heap s'.heap/\s'.os=s₁.os/\AllBare s'.gens) s₁):
  WalkO q loose XP YP l.row.toRowW d [] (λf vs=>PySem.call f vs):=by
 intro w s₀ s₁ mg mb G Y fa o pm cd doc dV kV ho hd hcd hD hmg hg args vals as hpre hlay hrd hwl hlo;obtain rfl:dV=.none:=Dflts.none hD hdf;obtain rfl:kV=.none:=Dflts.noKw hD;obtain⟨a,vs,ns,rfl,rfl,hobj,hints,hlen⟩:=aFP hn hpre hwl;refine enter_call<|Aw (call w s₀ s₁ mg mb fa o pm cd doc a vs ns G Y ho (fd_plain hd) hcd hmg hobj hints hlen (aNN hlay) hg) λr s' hq=> ?_;obtain⟨rfl,h2,h3,h4⟩:=hq;exact⟨.inl ⟨.bool true,.bool true,[],rfl,λ_=>rfl,.bool true,aGi l _,λ_=>⟨List.Pairwise.nil,λ_ hm=>(nomatch hm)⟩⟩,h2,h3,h4⟩
end
theorem walkDB{l:PySem.W.OpenLaw}{k:Nat}{q:AD}{loose:List Str}{XP:(Str->Option BH)->BL->Prop}{YP:AL->BL->Prop}{d:DefRec}{K:Params->aB}(hn:l.most=some 63)(hdf:d.params.defaults=[])
  (hr:Room k callerA) (hY:∀ (w:AL) (h:BL),YP w h->(K w.params).In h)
  (F:∀ (w:AL) (mg:Str→Option BH) (fa:BJ) (h:BL),(K w.params).In h→h.Ns AO mg→mg d.name=some (.ref fa)→
   ∃fd:AW,(∀ (s:BI) (u:BH),BindsTo s fd ⟨[u],[]⟩ [(x,u)])/\∀base:BL,(K w.params).In base->base.Ns AO mg->FnOk l.prog w (K w.params) mg base CX0 k fa fd [x] (spC (K w.params) 1 aGO)):
  PySem.W.WalkO q loose XP YP l.row.toRowW d [] (λf vs=>PySem.call f vs):=by
 refine aAv hn hdf λw s₀ s₁ mg mb fa o pm cd doc a vs ns G Y ho hd hcd hmg hobj hints hlen hbit hg=> ?_
 have KX:=hY w _ Y;obtain⟨fd,hb,hF⟩:=F w mg fa _ KX G.T.g hmg
 exact aHU (CX:=CX0) (sp:=spC (K w.params) 1 aGO) KX G.T.g G.T.b G.T.builtins G.T.nolimit hg hobj hints (cJ hlen<|by decide) hr hF hb
  (λH hO hS=>⟨rfl,aHH hO,[.scr ns],.val<|.bl true,.one (by simp only[Rep];exact⟨a,rfl,hS⟩),⟨ns,rfl,hlen,hbit,rfl⟩,λv H' ⟨F,_,_,_,res⟩=>by simpa only[ResOk,Rep] using res⟩) λH e s' z=>z
theorem aKP{i j:Int}(h:aJs i)(hj:Builtin.Int.intBits j<=1000):IntMulOk i j:=by unfold IntMulOk Builtin.Int.intTooBig;intro q;simp only[bC,decide_eq_true_eq] at q;unfold aJs at h;have e:bitsLine=134217728:=rfl;have:=q.2;rw[e] at this;omega
def GtAt(A:BK)(s:BI)(x y:BH)(b:Bool):Prop:=∀ (prog:AD) (w:AL) (E:BH->BI->Prop) (Q:BH->BI->Prop),Q (.bool b) s->AI (AG prog w) A (richCompare .Gt x y) Q E s
inductive aOr(A:BK)(s:BI)(fin:Bool):List (BH×BH)->Bool->Prop
 |nil:aOr A s fin [] fin
 |eq {x y:BH}{r:List (BH×BH)}{b:Bool}:SeqAt.EqAt A.in1 s x y true->aOr A s fin r b->aOr A s fin ((x,y)::r) b
 |lt {x y:BH}{r:List (BH×BH)}{b:Bool}:SeqAt.EqAt A.in1 s x y false->GtAt A.in1 s x y b->aOr A s fin ((x,y)::r) b
section
open PySem.SeqAt
open PySem.AutoSeq1 (wpAny_loadPart')
open PySem.MeetsSeq PySem.MeetsSeq2 PySem.MeetsSeq3
end
mutual
noncomputable def dgt:D->D->Bool
 |.int a,.int b=>decide<|b<a
 |.tup a,.tup b=>aQz a b
 |_,_=>false
noncomputable def aQz:List D->List D->Bool
 |[],[]=>false
 |[],_::_=>false
 |_::_,[]=>true
 |d::ds,e::es=>if deq d e=true then aQz ds es else dgt d e
end
noncomputable def sz8L:List (Int×Int):=[(1,1),(1,2),(2,1),(2,2),(1,3),(3,1),(1,4),(4,1)]
theorem gX(x:Int)(h:0<n):(x%(n:Int)).toNat<n/\0<=x%(n:Int):=by have h0:=dM x (show(n:Int)≠0 by omega);have h1:=cK x (show(0:Int)<n by omega);omega
theorem wY{l:List Int}{d:Int}(h:i<l.length):(l.map D.int)[i]? =some (.int<|l.getD i d):=by simp[bX,h]
noncomputable def oE(c:Int):Int:=([1,1,3]:List Int).getD (mxS c 10%3).toNat 1
noncomputable def oW(c:Int):Nat:=1+(mxS c 11%4).toNat+(if mxS c 12%8=1 then 1 else 0)
noncomputable def aGA(c:Int):Int:=([1,1,2,3]:List Int).getD (mxS c 5%4).toNat 1
theorem vW(c:Int):oE c=1\/oE c=3:=by
 have g:∀x∈([1,1,3]:List Int),x=1\/x=3:=by decide
 exact g _<|getD_mem (gX _ (n:=3)<|by decide).1
theorem aEb(c:Int):1<=aGA c/\aGA c<=3:=by
 have g:∀x∈([1,1,2,3]:List Int),1<=x/\x<=3:=by decide
 exact g _<|getD_mem (gX _ (n:=4)<|by decide).1
theorem aAd(c:Int):1<=oW c/\oW c<=5:=by
 have:=(gX (mxS c 11) (n:=4)<|by decide).1;unfold oW;have e:((4:Nat):Int)=4:=rfl;rw[e] at this
 split<;>omega
noncomputable def gW(p:Int×Int)(ns:List Int)(st:Nat)(f:Int):Nat->List SK
 |0=>[]
 |t+1=>if yB (gW p ns st f t) (drQ p<|ns.getD (st+1+t) 0) then gW p ns st f t else gW p ns st f t++[(drQ p<|ns.getD (st+1+t) 0,f*aGA (ns.getD (st+1+t) 0))]
noncomputable def yR(p:Int×Int)(ns:List Int)(st:Nat):List SK:=gW p ns st (oE<|ns.getD st 0) (oW<|ns.getD st 0)
def aIP:List D->R->Prop:=λds r=>∃p ns st,p∈bR/\st<=100/\ds=[.scr ns,.int ((st:Nat):Int),cF p]/\r=.val (.tup [.lst<|(yR p ns st).map skD,.int (oE<|ns.getD st 0)])
structure KitOk(p:Int×Int)(f:Int)(L:List SK):Prop where
 pos:0<L.length
 le:L.length<=5
 st:∀s∈L,pQ p s.1/\f<=s.2/\s.2<=3*f
 nd:(L.map λs=>sqD s.1).Nodup
 f13:f=1\/f=3
theorem KitOk.stk{p:Int × Int}{f:Int}(h:KitOk p f L):StkOk p L:=⟨h.pos,by have:=h.le; omega,fun s hs=>by
 obtain⟨h1,h2,h3⟩:=h.st s hs;have:=h.f13
 exact⟨h1,by omega,by omega⟩⟩
theorem uF{p:Int×Int}(hp:p∈bR)(ns:List Int)(st:Nat){f:Int}(hf:f=1\/f=3):∀t,(gW p ns st f t).length<=t/\(0<t->0<(gW p ns st f t).length)/\(∀s∈gW p ns st f t,pQ p s.1/\f<=s.2/\s.2<=3*f)/\((gW p ns st f t).map λs=>sqD s.1).Nodup
 |0=>⟨aP _,λh=>by omega,λs hs=>(nomatch hs),eV⟩
 |t+1=>by
  obtain⟨a,b,c,d⟩:=uF hp ns st hf t;have e:gW p ns st f (t+1)=if yB (gW p ns st f t) (drQ p<|ns.getD (st+1+t) 0) then gW p ns st f t else gW p ns st f t++[(drQ p<|ns.getD (st+1+t) 0,f*aGA (ns.getD (st+1+t) 0))]:=rfl
  rw[e];clear e;cases h:yB (gW p ns st f t) (drQ p<|ns.getD (st+1+t) 0) with
  |true=>
   rw[if_pos rfl];refine⟨by omega,λ_=> ?_,c,d⟩;cases e:gW p ns st f t with
   |nil=>rw[e] at h;cases h
   |cons _ _=>simp
  |false=>
   rw[if_neg bY];refine⟨by rw[aQ];simp;omega,λ_=>by rw[aQ];simp,λs hs=> ?_, ?_⟩
   ·rcases aU.mp hs with hs|hs
    ·exact c s hs
    ·rw[aN.mp hs];obtain⟨p1,p2⟩:=aEb<|ns.getD (st+1+t) 0;refine⟨aNh hp _, ?_⟩;show f<=f*_/\f*_<=3*f
     rcases hf with rfl|rfl<;>omega
   ·rw[aJ];refine bK.mpr ⟨d,by simp,λx hx y hy z=>aKj h ?_⟩;have:y=sqD (drQ p<|ns.getD (st+1+t) 0):=by simpa using hy
    rw[<-this,<-z];exact hx
theorem aHQ(hp:p∈bR)(ns:List Int)(st:Nat):KitOk p (oE<|ns.getD st 0) (yR p ns st):=by obtain⟨a,b,c,d⟩:=uF hp ns st (vW<|ns.getD st 0) (oW<|ns.getD st 0);obtain⟨m1,m2⟩:=aAd<|ns.getD st 0;exact⟨b<|by omega,cJ a m2,c,d,vW _⟩
noncomputable def oJ(n:Nat):Nat:=([12,5,4,3,2]:List Nat).getD (n-1) 0
noncomputable def aCC(c:Int)(n:Nat)(f:Int):Int:=f*(c%((oJ n:Int)+1))+c / 16%f
def aJl:List D->R->Prop:=λds r=>∃ (c:Int) (L:List SK) (f:Int),0<L.length/\L.length<=5/\(f=1\/f=3)/\ds=[.int c,.lst<|L.map skD,.int f]/\r=.val (.int<|aCC c L.length f)
theorem aHK(c:Int)(n:Nat){f:Int}(hf:f=1\/f=3):0<=aCC c n f/\aCC c n f<f*((oJ n:Int)+1):=by
 have h0:=dM c (show(oJ n:Int)+1≠0 by omega);have h1:=cK c (show(0:Int)<(oJ n:Int)+1 by omega);unfold aCC
 rcases hf with rfl|rfl<;>omega
noncomputable def rK(n:Nat):Nat->List (List Nat)
 |0=>[[]]
 |k+1=>(bO n).flatMap λi=>(rK n k).map λr=>i::r
theorem rK_mem{n:Nat}:∀ {k:Nat}{row:List Nat},row∈rK n k↔row.length=k/\∀i∈row,i<n
 |0,row=>by
  show row∈[[]]↔_;rw[aN]
  constructor
  ·rintro rfl;exact⟨rfl,λi hi=>(nomatch hi)⟩
  ·exact λh=>fR h.1
 |k+1,row=>by
  show row∈(bO n).flatMap _↔_;rw[eI]
  constructor
  ·rintro⟨i,hi,h⟩;obtain⟨r,hr,rfl⟩:=aE.mp h;obtain⟨h1,h2⟩:=rK_mem.mp hr;refine⟨by rw[bU,h1],λj hj=> ?_⟩
   rcases aW.mp hj with rfl|hj
   ·exact bP.mp hi
   ·exact h2 j hj
  ·rintro⟨h1,h2⟩;cases row with
   |nil=>cases h1
   |cons i r=>exact⟨i,bP.mpr<|h2 i aH,aE.mpr ⟨r,rK_mem.mpr ⟨by simpa using h1,λj hj=>h2 j<|aI _ hj⟩,rfl⟩⟩
noncomputable def upK(n K:Nat):List (List Nat):=(bO<|K+1).flatMap<|rK n
theorem upK_mem{K:Nat}:row∈upK n K↔row.length<=K/\∀i∈row,i<n:=by
 unfold upK;rw[eI]
 constructor
 ·rintro⟨k,hk,h⟩;obtain⟨h1,h2⟩:=rK_mem.mp h;have:=bP.mp hk;exact⟨by omega,h2⟩
 ·rintro⟨h1,h2⟩;exact⟨row.length,bP.mpr<|by omega,rK_mem.mpr ⟨rfl,h2⟩⟩
theorem aBh{f:Int}{pr:Nat->Int}:∀ (row:List Nat),(∀k∈row,f<=pr k)->f*(row.length:Int)<=S45.prQ pr row
 |[],_=>by simp[S45.prQ]
 |k::row,h=>by
  have ih:=aBh row λj hj=>h j<|aI _ hj
  have h1:=h k aH;show f*((row.length+1:Nat):Int)<=(pr k::row.map pr).sum;rw[aOz];have e:S45.prQ pr row=(row.map pr).sum:=rfl;rw[<-e,Int.natCast_add,Int.mul_add];omega
theorem aPy{f:Int}(h:KitOk p f L)(hb:b<f*((oJ L.length:Int)+1)):FewR L b (upK L.length<|oJ L.length):=by
 have g:∀n∈[1,2,3,4,5],(upK n<|oJ n).length<=400/\oJ n<=300:=by decide+kernel
 have hl:L.length∈[1,2,3,4,5]:=by
  have h1:=h.pos;have h2:=h.le;have e:L.length=1\/L.length=2\/L.length=3\/L.length=4\/L.length=5:=by omega
  rcases e with e|e|e|e|e<;>rw[e]<;>decide
 obtain⟨g1,g2⟩:=g _ hl;refine⟨g1,λrow hr=>cJ (upK_mem.mp hr).1 g2,λrow ho hr=>upK_mem.mpr ⟨?_,ho⟩⟩;have:=aBh (f:=f) (pr:=prK L) row λk hk=>(h.st _ (getD_mem (d:=(AM:SK))<|ho k hk)).2.1
 have hf:=h.f13
 rcases hf with rfl|rfl<;>omega
noncomputable def qR(L:List SK)(c:Int):Nat:=(c*16807%2147483647%(L.length:Int)).toNat
structure RwsOk(L:List SK)(b:Int)(n:Nat)(R:List (List Nat)):Prop where
 ne:R≠[]
 len:R.length<=n+1
 ok:∀row∈R,fX L row/\S45.prQ (prK L) row<=b/\row.length<=n
theorem aEe(h:0<L.length)(c:Int):qR L c<L.length:=(gX _ h).1
def aJD:List D->R->Prop:=λds r=>∃ (L:List SK) (row:List Nat),fX L row/\row.length<=400/\ds=[.lst<|L.map skD,.tup<|bJ row]/\r=.val (.int<|S45.prQ (prK L) row)
def aJa(P:AD)(w:AL)(K:aB):List D->R->Prop:=λds r=>∃p L row,p∈bR/\StkOk p L/\fX L row/\row.length<=400/\ds=[cF p,.lst (L.map<|mgD P w K p),.tup<|bJ row]/\r=.val (.tup<|(S45.tabQ (kI p L) (bT p) row).map bF)
theorem vH(a:List Nat):bJ a=(inR a).map D.int:=natI a
structure BqOk(p:Int×Int)(L:List SK)(b:Int)(B:List Bk):Prop where
 len:B.length<=400
 ent:∀e∈B,fX L e.2.1/\e.1=S45.prQ (prK L) e.2.1/\e.1<=b/\e.2.2=S45.tabQ (kI p L) (bT p) e.2.1/\e.2.1.length<=300
 nd:(B.map λe=>e.2.2).Nodup
 srt:(B.map λe=>e.2.1).Pairwise (klt L)
 cl:∀e∈B,∀k,k<L.length->e.1+prK L k<=b->∃e'∈B,e'.2.2=kI p L k e.2.2/\kle L e'.2.1 (e.2.1++[k])
 st:0<=b->∃e∈B,e.2.2=bT p/\kle L e.2.1 []
 all:∀row,fX L row->S45.prQ (prK L) row<=b->∃e∈B,e.2.2=S45.tabQ (kI p L) (bT p) row/\kle L e.2.1 row
theorem aBH(hp:p∈bR)(S:StkOk p L)(F:FewR L b U):BqOk p L b (bkQ p L b):=by
 have O:=aIR (p:=p) S.pr F;have nr:∀ {row:List Nat},fX L row->NOk p (nrQ p L row)/\jC p (nrQ p L row)=S45.tabQ (kI p L) (bT p) row:=λh=>qU hp (λs hs=>(S.st s hs).1) h
 have mem:∀ {e:Int×List Nat×List Nat},e∈bkF p L b->(e.1,e.2.1,jC p e.2.2)∈bkQ p L b:=λh=>aE.mpr ⟨_,h,rfl⟩
 refine⟨by unfold bkQ;rw[aA];exact O.len,λx hx=> ?_, ?_, ?_,λx hx k hk hle=> ?_,λh=> ?_,λrow ho hr=> ?_⟩
 ·obtain⟨e,he,rfl⟩:=aE.mp hx;obtain⟨h1,h2,h3,h4,h5⟩:=O.ent e he;exact⟨h1,h2,h3,by show jC p e.2.2=_;rw[h4];exact(nr h1).2,h5⟩
 ·unfold bkQ;rw[aR];have:(bkF p L b).map ((λe:Bk=>e.2.2) ∘ λe=>(e.1,e.2.1,jC p e.2.2))=((bkF p L b).map λe=>e.2.2).map (jC p):=by rw[aR];rfl
  rw[this];have q:=O.nd;unfold List.Nodup at q ⊢;rw[eC];refine List.Pairwise.imp_of_mem (λ{a c} ha hc h z=>h ?_) q;obtain⟨e,he,rfl⟩:=aE.mp ha;obtain⟨e',he',rfl⟩:=aE.mp hc;have n1:=(nr (O.ent e he).1).1;have n2:=(nr (O.ent e' he').1).1;rw[<-(O.ent e he).2.2.2.1] at n1;rw[<-(O.ent e' he').2.2.2.1] at n2;exact xE hp n1 n2 z
 ·unfold bkQ;rw[aR];exact O.srt
 ·obtain⟨e,he,rfl⟩:=aE.mp hx;obtain⟨e',he',h1,h2⟩:=O.cl e he k hk hle;obtain⟨o1,_,_,o4,_⟩:=O.ent e he;refine⟨_,mem he', ?_,h2⟩
  have ho:fX L (e.2.1++[k]):=λi hi=>by
   rcases aU.mp hi with hi|hi
   ·exact o1 i hi
   ·rw[aN.mp hi];exact hk
  show jC p e'.2.2=kI p L k (jC p e.2.2);rw[h1,(nr ho).2,S45.tab_snoc,o4,(nr o1).2]
 ·obtain⟨e,he,h1,h2⟩:=O.st h;refine⟨_,mem he, ?_,h2⟩;show jC p e.2.2=bT p;rw[h1];exact aFb p
 ·obtain⟨e,he,h1,h2⟩:=O.all S.pr row ho hr;refine⟨_,mem he, ?_,h2⟩;show jC p e.2.2=_;rw[h1];exact(nr ho).2
theorem aEH(hp:p∈bR)(S:StkOk p L)(h:fX L row):(S45.tabQ (kI p L) (bT p) row).length=(bT p).length:=by obtain⟨q1,q2⟩:=qU hp (λs hs=>(S.st s hs).1) h;rw[<-q2];unfold jC;rw[aA];exact q1.1
theorem aDD(hpr:∀k,k<L.length->1<=prK L k)(h:fX L row):0<=S45.prQ (prK L) row:=by
 have:=S45.len_pr (pr:=prK L) row λk hk=>hpr k<|h k hk
 omega
theorem aKA(hpr:∀k,k<L.length->1<=prK L k){a:List Nat}(ho:fX L a)(h:kle L a []):a=[]:=by
 rcases h with h|(h|⟨_,h⟩)
 ·exact h
 ·have h1:=aDD hpr ho;unfold rlt rkR at h;have e:S45.prQ (prK L) ([]:List Nat)=0:=rfl;simp only[e] at h;have:(([]:List Nat).length:Int)=0:=rfl;omega
 ·cases a with
  |nil=>rfl
  |cons x a=>cases h
theorem aMl(q:SQ):pl (sqD q)=true/\dep (sqD q)=1:=by
 show pl (jF _ _ _ _)=true/\dep (jF _ _ _ _)=1;unfold jF
 split
 ·exact⟨rfl,rfl⟩
 ·split<;>exact⟨rfl,rfl⟩
theorem aMC(s:SK):pl (skD s)=true/\dep (skD s)<=2:=by
 refine⟨?_, ?_⟩
 ·show(pl (sqD s.1)&&(true&&true))=true;rw[(aMl s.1).1];rfl
 ·show max (dep<|sqD s.1) (max 0 0)+1<=2;rw[(aMl s.1).2];decide
theorem aMY(L:List SK):plL (L.map skD)=true/\jT (L.map skD)<=2:=⟨tE skD (λs=>(aMC s).1) L,qK skD 2 (λs=>(aMC s).2) L⟩
open PySem.W (KasT kas_sort)
def CanC(p:Int×Int)(c:List (List Int)):Prop:=((bT p).filter λf=>decide<|f∈c)=c
variable {τ:List Nat}{c d:List (List Int)}{W:List (Option (List (List Int)))}{T:List (List Int)}
structure WCan(p:Int×Int)(W:List (Option (List<|List Int))):Prop where
 len:W.length=(bT p).length
 ok:∀o∈W,∀c,o=some c->c≠[]/\CanC p c
theorem TupAt1.inj{h:BL}{v:BH}{x y:List Int}(a:TupAt1 h v x)(b:TupAt1 h v y):x=y:=by
 obtain⟨a1,o,n,its,rfl,g,c,d,i1,_⟩:=a;obtain⟨a2,o2,n2,its2,e,g2,c2,d2,i2,_⟩:=b;cases e;rw[g] at g2;cases g2;rw[d] at d2
 have e2:its=its2:=by
  injection d2 with q
  simpa using q
 subst e2
 have f:∀ {vs:List BH}{x y:List Int},IntsAre vs x->IntsAre vs y->x=y:=λ{vs}=>by
  induction vs with
  |nil=>intro x y p q;cases p;cases q;rfl
  |cons v vs ih=>
   intro x y p q;cases p with
   |cons n t p=>cases q with
    |cons m u q=>rw[ih p q]
 exact f i1 i2
noncomputable def rkV(h:BL)(rk:List Int->Nat)(v:BH):Nat:=open Classical in if q:∃x,TupAt1 h v x then rk (Classical.choose q) else 0
theorem aDC{h:BL}{rk:List Int->Nat}{v:BH}{x:List Int}(a:TupAt1 h v x):rkV h rk v=rk x:=by unfold rkV;have q:∃x,TupAt1 h v x:=⟨x,a⟩;rw[dif_pos q,(Classical.choose_spec q).inj a]
noncomputable def iF(k:List Key):List Int:=k.map λz=>match z with | .inl i=>i | .inr _=>0
theorem TupAt1.keep{h h':BL}{v:BH}{x:List Int}(p:TupAt1 h v x)(k:∀b o,o.cls=.type "tuple"->h.get? b=some o->h'.get? b=some o):TupAt1 h' v x:=by obtain⟨a,o,n,its,e,g,c,d⟩:=p;exact⟨a,o,n,its,e,k _ _ c g,c,d⟩
theorem aPl{h:BL}{a:BJ}{vs us:List BH}(ho:h.get? a=some (AZ "list" us.toArray n)):∀b o,o.cls=.type "tuple"->h.get? b=some o->(iP h a vs).get? b=some o:=λb o c g=>by
 have nb:a≠b:=λz=>by subst z;rw[ho] at g;cases g;exact absurd (show Value.type "list"=Value.type "tuple" from c)<|by decide
 unfold iP;refine aD _<|aD _ ?_;rw[cI _ _ nb];exact g
theorem aKs{h:BL}{T:List kJ}(R:∀r∈T,TupAt1 h (.ref r.2.2)<|iF r.2.1):TupsAt h (T.map λr=>Value.ref r.2.2) (T.map λr=>iF r.2.1):=by
 induction T with
 |nil=>exact .nil
 |cons r T ih=>exact .cons (R r aH) (ih λq hq=>R q<|aI _ hq)
variable {E:BH->BI->Prop}
theorem wX{a:BJ}{T:List kJ}{rk:List Int->Nat}{R:PySem.Fin->BI->Prop}(ho:s.heap.get? a=some (AZ "list" (T.map λr=>Value.ref r.2.2).toArray n))(RI:∀r∈T,TupAt1 s.heap (.ref r.2.2)<|iF r.2.1)(hn:T.length<=10000)
  (nd:(T.map λr=>rk<|iF r.2.1).Nodup) (hlt:∀x∈T,∀y∈T,ltI (iF x.2.1) (iF y.2.1)=decide (rk (iF x.2.1)<rk (iF y.2.1)))
  (h:∀T':List kJ,T'.Perm T->(T'.map λr=>rk<|iF r.2.1).Pairwise (·<·)->R (.done<|.ret .none) {s with heap:=sortedHeap s.heap a (T.map λr=>Value.ref r.2.2) (T'.map λr=>Value.ref r.2.2).toArray}):AI (AG prog w) A (Builtin.«list.sort» ⟨[.ref a],[]⟩) R E s:=by
 obtain⟨vs,hvs⟩:∃vs,T.map (λr=>Value.ref r.2.2)=vs:=⟨_,rfl⟩;rw[hvs] at ho h;have R6:∀r∈T,TupAt1 (iP s.heap a vs) (.ref r.2.2) (iF r.2.1):=λr hr=>(RI r hr).keep<|aPl ho
 have T6:TupsAt (iP s.heap a vs) vs (T.map λr=>iF r.2.1):=by have:=aKs R6;rw[hvs] at this;exact this
 have er:∀T':List kJ,(∀r∈T',r∈T)->(T'.map λr=>Value.ref r.2.2).map (rkV (iP s.heap a vs) rk)=T'.map λr=>rk (iF r.2.1):=λT' hT=>by rw[aR];exact bQ λr hr=>aDC (R6 r<|hT r hr)
 have mv:∀x∈vs,∃r∈T,x=Value.ref r.2.2:=λx hx=>by rw[<-hvs] at hx;obtain⟨r,hr,e⟩:=aE.mp hx;exact⟨r,hr,e.symm⟩
 have lv:vs.length=T.length:=by rw[<-hvs,aA]
 have nv:(vs.map<|rkV (iP s.heap a vs) rk).Nodup:=by
  have:=er T λ_ z=>z
  rw[hvs] at this;rw[this];exact nd
 have hk0:2<=vs.length->∀Q:Ao->BI->Prop,Q (tuples' true) ⟨iP s.heap a vs,s.gens,s.drawn,s.toks,s.os⟩->AI (AG prog w) A (keyKind' vs.toArray) Q E ⟨iP s.heap a vs,s.gens,s.drawn,s.toks,s.os⟩:=λh2 Q q=>aPL (s:=⟨iP s.heap a vs,s.gens,s.drawn,s.toks,s.os⟩) T6 (by rw[aA];omega) q
 have ha0:∀x∈vs,∀y∈vs,∀ (Q:Bool->BI->Prop) (E':BH->BI->Prop),Q (decide<|rkV (iP s.heap a vs) rk x<rkV (iP s.heap a vs) rk y) ⟨iP s.heap a vs,s.gens,s.drawn,s.toks,s.os⟩->AI (AG prog w) A (keyLt' (tuples' true) x y) Q E' ⟨iP s.heap a vs,s.gens,s.drawn,s.toks,s.os⟩:=λx hx y hy Q E' q=>by obtain⟨u,hu,rfl⟩:=mv x hx;obtain⟨v,hv,rfl⟩:=mv y hy;refine askI (s:=⟨iP s.heap a vs,s.gens,s.drawn,s.toks,s.os⟩) (R6 u hu) (R6 v hv) ?_;rw[hlt u hu v hv];rw[aDC<|R6 u hu,aDC<|R6 v hv] at q;exact q
 refine qV (κ:=tuples' true) (rk:=rkV (iP s.heap a vs) rk) ho nv (by omega) hk0 ha0 λout p1 p2=> ?_
 rw[<-hvs] at p1;obtain⟨T',q1,q2⟩:=pA (f:=λr:kJ=>Value.ref r.2.2) (l:=T) (l':=out.toList) p1
 have e:out=(T'.map λr=>Value.ref r.2.2).toArray:=by apply lU.mp;rw[q2]
 rw[q2,er T' λr hr=>q1.mem_iff.mp hr] at p2;rw[e];exact h T' q1 p2
theorem aCQ{S:BJ}{o:BM}{T:List kJ}{rk:List Int->Nat}{Q:BH->BI->Prop}(hh:A.handled=none)(ho:s.heap.get? S=some o)(sm:SetT prog w true o T)(l72:T.length<=3)(RI:∀r∈T,TupAt1 s.heap (.ref r.2.2)<|iF r.2.1)
  (nd:(T.map λr=>rk<|iF r.2.1).Nodup) (hlt:∀x∈T,∀y∈T,ltI (iF x.2.1) (iF y.2.1)=decide (rk (iF x.2.1)<rk (iF y.2.1)))
  (h:∀ (h':BL) (tk:Nat) (D:BJ) (T':List kJ) (n:Nat),(∀b x,s.heap.get? b=some x->h'.get? b=some x)->S<D->h'.get? D=some {cls:=.type "list",data:=.seq (T'.map λr=>Value.ref r.2.2).toArray n}->T'.Perm T->(T'.map λr=>rk<|iF r.2.1).Pairwise (·<·)->Q (.ref D) {s with heap:=h',toks:=tk}):
  AI (AG prog w) A (call (.builtin "sorted") [.ref S]) Q E s:=by
 obtain⟨es,ep,t,rfl,X,z,hled,hpl⟩:=sm;obtain⟨el,hel⟩:∃el,T.map (gT (tK prog w).hash)=el:=⟨_,rfl⟩;have ee:es=el.toArray:=by rw[<-hel];exact X.en
 have fit:=X.fit<|z.fit X.om l72;have lel:el.length=T.length:=by rw[<-hel,aA]
 obtain⟨ks,hks⟩:∃ks,T.map (·.1)=ks:=⟨_,rfl⟩;have lks:ks.length=T.length:=by rw[<-hks,aA]
 have hk:TOk w el t ks:=⟨by rw[<-ee];exact fit,hpl rfl,hled,by rw[<-hks];exact X.pl,by rw[<-hks];exact X.rs,by rw[lel,lks]⟩;have ho':s.heap.get? S=some (soT el ep t):=by rw[ho,ee];rfl
 have pm:=aAm (w:=w) (S:=S) (ep:=ep) el;have pm':=pm;rw[<-hel] at pm';obtain⟨T1,q1,q2⟩:=pA (f:=gT (tK prog w).hash) (l:=T) pm';rw[hel] at q2;have l1:T1.length=T.length:=q1.length_eq;have src:=srcW (prog:=prog) (ep:=ep) (S:=S) hk;clear ee ho;refine Calls.call_function_entry kind_sorted plain_sorted entry_sorted (args_sorted1 _) ?_;unfold Builtin.«sorted»;refine AA (m:=checkCount "sorted" 1 1 _)<|AB (AA<|PySem.W.kdu_collect src (by simpa using hh) ho' (by rw[lks,Ah];omega) λh1 tk acc kp it=> ?_)
 have al:acc.toList=T1.map λr=>Value.ref r.2.2:=by
  have e0:T1.map (λr=>Value.ref r.2.2)=(pK w S ep el).map (·.2):=by rw[q2,aR];rfl
  rw[e0];apply oO;intro j
  by_cases hj:j<acc.toList.length
  ·have e3:acc.toList[j]? =some acc.toList[j]:=by simp[hj]
   obtain⟨c,q⟩:=it.2 j acc.toList[j] (by rw[<-cX];exact e3);rw[e3,bA,q];rfl
  ·have a1:acc.toList.length=ks.length:=by rw[cM];exact it.1
   rw[eR<|by omega,eR<|by rw[aA,q2,aA];omega]
 have R1:∀r∈T1,TupAt1 (h1.push {cls:=.type "list",data:=.seq acc.toList.toArray}) (.ref r.2.2) (iF r.2.1):=λr hr=>(RI r<|q1.mem_iff.mp hr).keep λb x _ g=>aD _<|kp b x g
 refine AA (wpAny_newList ?_<|by rw[al,aA,Ah];omega);have hoL:(h1.push {cls:=.type "list",data:=.seq acc.toList.toArray}).get? h1.objs.size=some (AZ "list" acc.toList.toArray 0):=bG _ rfl;rw[al] at hoL R1 ⊢;refine AA<|AV (Ae PyProof.Rows.slot_list_sort ⟨_,hoL,rfl⟩ PyProof.Rows.entry_list_sort (wX (rk:=rk) (s:=⟨h1.push {cls:=.type "list",data:=.seq (T1.map λr=>Value.ref r.2.2).toArray},s.gens,s.drawn,tk,s.os⟩) hoL R1 (by omega) ((q1.map _).nodup_iff.mpr nd) (λx hx y hy=>hlt x (q1.mem_iff.mp hx) y<|q1.mem_iff.mp hy) λT' p1 p2=>⟨_,rfl,AB ⟨_,rfl, ?_⟩⟩)<|args_list_sort _);obtain⟨v1,hv1⟩:∃v1,T1.map (λr=>Value.ref r.2.2)=v1:=⟨_,rfl⟩;obtain⟨v2,hv2⟩:∃v2,T'.map (λr=>Value.ref r.2.2)=v2:=⟨_,rfl⟩;have fin:=λh' n2 a b c=>h h' tk h1.objs.size T' n2 a b c (p1.trans q1) p2
 rw[hv1] at hoL ⊢;rw[hv2] at fin ⊢
 have keep:∀ (b:BJ) (x:BM),b≠h1.objs.size->h1.get? b=some x->(sortedHeap (h1.push {cls:=.type "list",data:=.seq v1.toArray}) h1.objs.size v1 v2.toArray).get? b=some x:=λb x hb g=>by unfold sortedHeap;rw[cI _ _<|Ne.symm hb];refine aD _<|aD _ ?_;rw[cI _ _<|Ne.symm hb];exact aD _ g
 obtain⟨n1,g1⟩:∃n1,((h1.push {cls:=.type "list",data:=.seq v1.toArray}).update h1.objs.size<|Obj.mapSeq λ_=> #[]).get? h1.objs.size=some (AZ "list" #[] n1):=⟨_,BF hoL λ_=> #[]⟩;obtain⟨n2,g2⟩:∃n2,(sortedHeap (h1.push {cls:=.type "list",data:=.seq v1.toArray}) h1.objs.size v1 v2.toArray).get? h1.objs.size=some (AZ "list" v2.toArray n2):=⟨_,BF (aD _<|aD _ g1) λ_=>v2.toArray⟩;have le:S<h1.objs.size:=aS<|kp _ _ ho';exact fin _ n2 (λb x g=>keep b x (λz=>absurd (aS<|kp b x g)<|by rw[z];exact dU _)<|kp b x g) le g2
variable {b:Expr}
theorem aHw{q2:Pos}(hu:X.A.units+10<AQ)(hg2:Gl X "set")(hm2:X.mg "set"=none)(hi:∀k∈ks,∀z∈k,∃i,z=Sum.inl i)(h16:ks.length<=3)(hc:X.calm=true)(hst:AF [e] X.env=(false,eval e X.env)::AF [] X.env)
  (ha:PEd X sd e (.val (.lst<|ks.map mO))) {σ:St}{F H:Hp} (S:StF X.K X.B₀ F H σ sd) {pins:List (BJ×BM)}{s:BI} (I:Inv X pins σ H s) {Q:BH->BI->Prop}
  (k:∀ (s0:BI) (h2:BL) (tk:Nat) (H1 F1:Hp) (o1:BM) (T1:List kJ),Inv X pins σ H1 s0->(∀b o,s0.heap.get? b=some o->h2.get? b=some o)->StF X.K X.B₀ F1 H1 σ sd->Same F F1->h2.get? s0.heap.objs.size=some o1->SetT X.prog X.w true o1 T1->(∀k,k∈T1.map (·.2.1)↔k∈ks)->(∀p∈T1.map (·.2),F1 p.2=some (.tup<|p.1.map kV))->Q (.ref s0.heap.objs.size) {s0 with heap:=h2,toks:=tk}):
  AI (AG X.prog X.w) X.A (eval (.Call (.Name "set" p2) [e] [] q2) X.env) Q X.xe s:=by
 refine Ad<|nF I hg2 hm2 PyProof.Rows.boot_set ?_;refine PyProof.Rows.callWith_type1 (thn ((iH (te:=wE X e) gP pa_nil hst) q2 pins s σ H (λus H1=>∃v F1,us=[v]/\StF X.K X.B₀ F1 H1 σ sd/\Same F F1/\ResOk X.K F1 H1 sd (.val (.lst<|ks.map mO)) v) I<|(ha σ F H S).imp λv H1 ⟨F1,S1,s1,q1⟩=>⟨v,F1,rfl,S1,s1,q1⟩) λus s1 hus=> ?_) hst rfl;obtain⟨ws,H1,I1,rv,v,F1,rfl,S1,sF,q1⟩:=hus;obtain⟨u,rfl,ru⟩:=nN rv;simp only[ResOk,Rep] at q1;obtain⟨l,xs,rfl,hl,rl⟩:=q1;cases ru;obtain⟨its,rv2,ht0,hz⟩:=I1.list (.of<|S1.sub _ _ hl);have ht:s1.heap.IsList l its.toArray:=ht0.isList;have lx:xs.length=ks.length:=by rw[rl.len,aA]
 have ln:its.length=ks.length:=by rw[<-rv2.length,lx]
 have item:∀ (i:Nat) (v:BH),its[i]? =some v->∃a,v=.ref a/\i<ks.length/\F1 a=some (.tup<|(ks.getD i []).map kV):=λi v hv'=>by
  have hi:i<ks.length:=by rw[<-ln];exact(aK.mp hv').1
  obtain⟨x,hx,rx⟩:=rl.get (i:=i) (d:=D.tup<|(ks[i]).map kD) (by rw[bA,eM hi];rfl);obtain⟨u,hu',ru⟩:=rv2.get hx;rw[hv'] at hu';cases hu';simp only[Rep] at rx;obtain⟨a,ys,rfl,fa,ry⟩:=rx;have ey:=pS ry;subst ey;cases ru;have e:ks.getD i []=ks[i]:=by simp[bX,hi]
  exact⟨a,rfl,hi,by rw[e];exact fa⟩
 refine aPE (by omega) ks (ip:=true) (λ_=>hi) (by simpa using ln.symm) (by simpa[ln] using h16) (λi v hv=> ?_) (I1.ok.hd hc) ht λh' tk o' T kp g sm kt rt=> ?_
 ·obtain⟨a,rfl,hi,fa⟩:=item i v (by simpa using hv);exact⟨a,rfl,tW I1.hok<|S1.sub _ _ fa⟩
 ·refine k s1 h' tk H1 F1 o' T I1 kp S1 sF g sm kt λp hp=> ?_
  obtain⟨i,hi,ei⟩:=rt p hp;obtain⟨a,ea,_,fa⟩:=item i _ (by simpa using hi);cases ea;rw[<-ei];exact fa
theorem nZ(x:List Int):iF (kY x)=x:=by unfold iF kY;rw[aR];exact iL x
theorem aPI(x:List Int):(kY x).map kV=x.map V.int:=by unfold kY;rw[aR];rfl
theorem aPS(ps:List (List Int)):(ps.map kY).map mO=ps.map bF:=by rw[aR];exact bQ λx _=>kY_D x
theorem aAR(K:aB)(F:Hp):∀x:List Int,RepL K F (x.map D.int) (x.map V.int)
 |[]=>.nil
 |n::x=>.cons (by simp only[Rep])<|aAR K F x
theorem aBo{p q2:Pos}{ps qs:List (List Int)}{rk:List Int->Nat}(hu:X.A.units+10<AQ)(hg:Gl X "sorted")(hm:X.mg "sorted"=none)(hg2:Gl X "set")(hm2:X.mg "set"=none)(ha:PEd X sd e (.val (.lst<|ps.map bF)))(hne:∀x∈ps,x≠[])(h72:ps.length<=3)
  (hlt:∀x∈ps,∀y∈ps,ltI x y=decide (rk x<rk y)) (inj:∀x∈ps,∀y∈ps,rk x=rk y->x=y) (hq:∀x,x∈qs↔x∈ps) (hs:qs.Pairwise λx y=>rk x<rk y)
  (hc:X.calm=true:=by rfl) (hst:AF [e] X.env=(false,eval e X.env)::AF [] X.env:=by rfl) (hst2:AF [.Call (.Name "set" p2) [e] [] q2] X.env=(false,eval (.Call (.Name "set" p2) [e] [] q2) X.env)::AF [] X.env:=by rfl):
  PEd X sd (.Call (.Name "sorted" p) [.Call (.Name "set" p2) [e] [] q2] [] pos) (.own<|qs.map bF):=.mk λσ F H S pins s I=>by
 refine Ad<|nF I hg hm boot_sorted ?_;refine PyProof.Rows.callWith_builtin1 ?_ hst2 rfl;rw[hst2];refine Calls.spliced_cons ?_;have ha':PEd X sd e (.val (.lst<|(ps.map kY).map mO)):=by rw[aPS];exact ha
 refine aHw hu hg2 hm2 (ks:=ps.map kY) (λk hk z hz=> ?_) (by rw[aA];exact h72) hc hst ha' S I λs0 h2 tk H1 F1 o1 T1 I1 kp S1 sF g sm kt rt=> ?_
 ·obtain⟨x,_,rfl⟩:=aE.mp hk;obtain⟨i,_,rfl⟩:=aE.mp hz;exact⟨i,rfl⟩
 ·refine Calls.spliced_nil ?_
  have row:∀r∈T1,∃x∈ps,r.2.1=kY x/\F1 r.2.2=some (.tup<|x.map V.int):=λr hr=>by have hk:=(kt r.2.1).mp<|cP hr;obtain⟨x,hx,ex⟩:=aE.mp hk;refine⟨x,hx,ex.symm, ?_⟩;have:=rt r.2<|cP hr;rw[<-ex,aPI] at this;exact this
  have knd:=sm.nd
  have l72:T1.length<=3:=by
   have:=knd.length_le_of_subset (l₂:=ps.map kY) λk hk=>(kt k).mp hk
   rw[aA,aA] at this;omega
  have RI:∀r∈T1,TupAt1 h2 (.ref r.2.2) (iF r.2.1):=λr hr=>by
   obtain⟨x,hx,e1,f1⟩:=row r hr
   have rp:Rep X.K H1 (bF x) (.ref r.2.2):=by simp only[bF,Rep];exact⟨_,_,rfl,S1.sub _ _ f1,aAR _ _ x⟩
   obtain⟨b,ys,its,e2,e3,r2,v2,o,g2,c,n,hd⟩:=jA I1.hok rp (show RelV (.ref r.2.2) (.ref r.2.2) from rfl);cases e2;cases e3;have e4:=(show RepL X.K H1 (x.map D.int) ys from r2).ints;subst e4;rw[e1,nZ];exact⟨_,o,n,its,rfl,kp _ _ g2,c,hd,aEz v2,hne x hx⟩
  have ki:∀r∈T1,iF r.2.1∈ps:=λr hr=>by obtain⟨x,hx,e1,_⟩:=row r hr;rw[e1,nZ];exact hx
  have nd:(T1.map λr=>rk<|iF r.2.1).Nodup:=by
   have e:T1.map (λr=>rk<|iF r.2.1)=(T1.map (·.2.1)).map λk=>rk (iF k):=by rw[aR];rfl
   rw[e];unfold List.Nodup;rw[eC];refine List.Pairwise.imp_of_mem (λ{k1 k2} m1 m2 q z=>q ?_) knd;obtain⟨x,hx,ex⟩:=aE.mp<|(kt k1).mp m1;obtain⟨y,hy,ey⟩:=aE.mp<|(kt k2).mp m2;rw[<-ex,<-ey,nZ,nZ] at z;rw[<-ex,<-ey,inj x hx y hy z]
  refine aCQ (s:={s0 with heap:=h2,toks:=tk}) (rk:=rk) (I1.ok.hd hc) g sm l72 RI nd (λx hx y hy=>hlt _ (ki x hx) _<|ki y hy) λh3 tk3 dd T' n kp3 le g3 pm pw=> ?_
  have eT:T'.map (λr=>iF r.2.1)=qs:=by
   refine List.Perm.eq_of_pairwise (le:=fun x y=>rk x<rk y) (fun x y _ _ h1 h2=>by omega) (by
    have:=pw;rw[eC] at this;rw[eC]
    exact this) hs ?_
   have n1:(T'.map λr=>iF r.2.1).Nodup:=by have:=pw;rw[eC] at this;unfold List.Nodup;rw[eC];exact this.imp λ{x y} q z=>by rw[z] at q;omega
   have n2:qs.Nodup:=hs.imp λ{x y} q z=>by rw[z] at q;omega
   refine(List.perm_ext_iff_of_nodup n1 n2).mpr λx=> ?_
   rw[hq]
   constructor
   ·intro hx;obtain⟨r,hr,rfl⟩:=aE.mp hx;exact ki r<|pm.mem_iff.mp hr
   ·intro hx;have:=(kt<|kY x).mpr<|cP hx;obtain⟨r,hr,er⟩:=aE.mp this;refine aE.mpr ⟨r,pm.mem_iff.mpr hr, ?_⟩;rw[er,nZ]
  have le2:s0.heap.objs.size<=dd:=dG le;have hD:H1 dd=none:=I1.hok.fresh le2;have lT:T'.length<=3:=by rw[pm.length_eq];exact l72
  have vv:Vals (T'.map λr=>V.ref r.2.2) (T'.map λr=>Value.ref r.2.2):=by
   generalize T'=U
   induction U with
   |nil=>exact .nil
   |cons r U ih=>exact .cons rfl ih
  have I3:Inv X pins σ (upd H1 dd (.lst<|T'.map λr=>V.ref r.2.2)) {s0 with heap:=h3,toks:=tk3}:=
   I1.laid (λb o g=>kp3 b o<|kp b o g) le2 ⟨by rw[Ah,aA];omega,_,n,vv,g3⟩
  obtain⟨S4,fp,no⟩:=S1.layO (xs:=T'.map λr=>V.ref r.2.2) hD;refine⟨.ref dd,_,I3,rfl,F1,S4,sF,dd,_,rfl,fp,cG, ?_,no⟩;rw[<-eT,aR];have rT:∀r∈T',r∈T1:=λr hr=>pm.mem_iff.mp hr
  clear vv I3 S4 fp no g3 eT lT pw pm
  induction T' with
  |nil=>exact .nil
  |cons r U ih=>refine .cons ?_ (ih λq hq=>rT q<|aI _ hq);obtain⟨x,hx,e1,f1⟩:=row r<|rT r aH;show Rep X.K F1 (bF<|iF r.2.1) (.ref r.2.2);rw[e1,nZ];simp only[bF,Rep];exact⟨_,_,rfl,f1,aAR _ _ x⟩
theorem aJY:∀p∈bR,∀f∈bT p,∀g∈bT p,ltI f g=decide (oI p f<oI p g):=by decide+kernel
theorem aER(hp:p∈bR):(bT p).Pairwise λa b=>oI p a<oI p b:=by
 rw[jV];intro i j hi hj hij;have a:=yS hp hi;have b:=yS hp hj;have ea:(bT p).getD i []=(bT p)[i]:=by simp[bX,hi]
 have eb:(bT p).getD j []=(bT p)[j]:=by simp[bX,hj]
 rw[ea] at a;rw[eb] at b;omega
theorem aEP(hp:p∈bR):(bT p).Nodup:=(aER hp).imp λ{a b} h e=>by rw[e] at h;omega
theorem aHF(hp:p∈bR){f g:List Int}(hf:f∈bT p)(hg:g∈bT p)(h:oI p f=oI p g):f=g:=by have a:=(yN hp<|lN hp hf).2.2;have b:=(yN hp<|lN hp hg).2.2;rw[<-a,<-b,h]
structure ChN(A c:List (List Int)):Prop where
 ne:c≠[]
 nd:c.Nodup
 sub:∀f∈c,f∈A
theorem ChN.le{A:List (List Int)}(h:ChN A c):c.length<=A.length:=h.nd.length_le_of_subset h.sub
structure WN(A:List (List Int))(W:List (Option (List<|List Int))):Prop where
 len:W.length=A.length
 ok:∀o∈W,∀c,o=some c->ChN A c
theorem WN.wish(hp:p∈bR){W:List (Option (List<|List Int))}(h:WN (bT p) W):oY p W:=by refine⟨h.len,λo ho L hL=> ?_⟩;have k:=h.ok o ho L hL;have f9:(bT p).length<=64:=kA hp;have:=k.le;exact⟨hX.mpr k.ne,by omega,λws hw=>lN hp<|k.sub ws hw⟩
theorem miss_iff{w:List (Option (List<|List Int))}{A:List (List Int)}:(tM w A T).isNone=true↔∀j,j<A.length->aLB w T j=false:=by unfold tM;exact aFm
noncomputable def tJ(L:List SK)(b:Int):List Nat->List Int->List Nat
 |q,[]=>q
 |q,c::cs=>if b<S45.prQ (prK L) (q++[qR L c]) then q else tJ L b (q++[qR L c]) cs
theorem aEa{L:List SK}{b:Int}(hL:0<L.length):∀ (cs:List Int) {q:List Nat},fX L q->S45.prQ (prK L) q<=b->fX L (tJ L b q cs)/\S45.prQ (prK L) (tJ L b q cs)<=b/\(tJ L b q cs).length<=q.length+cs.length
 |[],q,h1,h2=>⟨h1,h2,aP _⟩
 |c::cs,q,h1,h2=>by
  show fX L (if b<S45.prQ (prK L) (q++[qR L c]) then q else tJ L b (q++[qR L c]) cs)/\S45.prQ (prK L) (if b<S45.prQ (prK L) (q++[qR L c]) then q else tJ L b (q++[qR L c]) cs)<=b/\(if b<S45.prQ (prK L) (q++[qR L c]) then q else tJ L b (q++[qR L c]) cs).length<=q.length+(c::cs).length
  by_cases h:b<S45.prQ (prK L) (q++[qR L c])
  ·rw[if_pos h];exact⟨h1,h2,by omega⟩
  ·rw[if_neg h]
   obtain ⟨a1,a2,a3⟩:=aEa hL cs (q:=q++[qR L c]) (fun i hi=>by
    rcases aU.mp hi with hi|hi
    ·exact h1 i hi
    ·rw[aN.mp hi]
     exact aEe hL c) (Int.not_lt.mp h)
   refine⟨a1,a2, ?_⟩;rw[aQ] at a3;simp at a3 ⊢;omega
noncomputable def xM(L:List SK)(b:Int)(ns:List Int)(st:Nat):List Nat:=tJ L b []<|ns.drop st
theorem aHC{b:Int}(hL:0<L.length)(hb:0<=b){ns:List Int}(h63:ns.length<=63)(st:Nat):fX L (xM L b ns st)/\S45.prQ (prK L) (xM L b ns st)<=b/\(xM L b ns st).length<=63:=by obtain⟨a1,a2,a3⟩:=aEa (b:=b) hL (ns.drop st) (q:=[]) (λi hi=>(nomatch hi)) hb;refine⟨a1,a2,cJ a3 ?_⟩;rw[iC];simp;omega
def aJh:List D->R->Prop:=λds r=>∃ns st p L b,StkOk p L/\0<=b/\st<=100/\ns.length<=63/\(∀i∈ns,aJs i)/\ds=[.scr ns,.int ((st:Nat):Int),.lst<|L.map skD,.int b]/\r=.val (.tup (bJ<|xM L b ns st))
noncomputable def uN(p:Int×Int)(f:List Int)(n:Int):Option (List<|List Int):=
 if n%5=0 then none else if n%5<3 then some [f] else if n%5=3 then some ((bT p).filter λg=>decide<|g.getD (n / 5%p.2).toNat 0=f.getD (n / 5%p.2).toNat 0)
 else some ((bT p).filter λg=>decide<|g∈[f,(bT p).getD (n / 40%((bT p).length:Int)).toNat []])
def aMr:List D->R->Prop:=λds r=>∃p f n,p∈bR/\f∈bT p/\ds=[cF p,bF f,.int n]/\r=.val (wsD<|uN p f n)
theorem aKi(hp:p∈bR){f:List Int}(hf:f∈bT p)(n:Int):∀c,uN p f n=some c->ChN (bT p) c:=λc hc=>by
 unfold uN at hc
 by_cases h0:n%5=0
 ·rw[if_pos h0] at hc;cases hc
 ·rw[if_neg h0] at hc
  by_cases h1:n%5<3
  ·rw[if_pos h1] at hc;obtain rfl:=cA.inj hc;exact⟨by simp,by simp,λx hx=>by rw[aN.mp hx];exact hf⟩
  ·rw[if_neg h1] at hc
   by_cases h3:n%5=3
   ·rw[if_pos h3] at hc;obtain rfl:=cA.inj hc;have hm:f∈(bT p).filter λg=>decide (g.getD (n / 5%p.2).toNat 0=f.getD (n / 5%p.2).toNat 0):=eZ.mpr ⟨hf,by simp⟩
    exact⟨λz=>(gA<|z▸hm).elim,(aEP hp).sublist rP,λx hx=>(eZ.mp hx).1⟩
   ·rw[if_neg h3] at hc;obtain rfl:=cA.inj hc;have hm:f∈(bT p).filter λg=>decide (g∈[f,(bT p).getD (n / 40%((bT p).length:Int)).toNat []]):=eZ.mpr ⟨hf,by simp⟩
    exact⟨λz=>(gA<|z▸hm).elim,(aEP hp).sublist rP,λx hx=>(eZ.mp hx).1⟩
noncomputable def aCB(T:List (List Int))(a:Int)(n:Int)(k:Nat):List Int:=if a%6=1 then T.getD (n / 7%(T.length:Int)).toNat [] else T.getD k []
noncomputable def sP(p:Int×Int)(T:List (List Int))(ns:List Int)(st:Nat)(t:Nat):List (Option (List<|List Int)):=(bO t).map λk=>uN p (aCB T (ns.getD st 0) (mxS (ns.getD (st+1+k) 0)<|70+k) k) (mxS (ns.getD (st+1+k) 0)<|70+k)
noncomputable def aDw(p:Int×Int)(T:List (List Int))(ns:List Int)(st:Nat):List (Option (List<|List Int)):=sP p T ns st T.length
def aMp:List D->R->Prop:=λds r=>∃p T ns st,p∈bR/\T.length=(bT p).length/\(∀f∈T,f∈bT p)/\st<=100/\ds=[.scr ns,.int ((st:Nat):Int),cF p,.tup<|T.map bF]/\r=.own ((aDw p T ns st).map wsD)
theorem aCL(p:Int×Int)(T:List (List Int))(ns:List Int)(st t:Nat):sP p T ns st (t+1)=sP p T ns st t++[uN p (aCB T (ns.getD st 0) (mxS (ns.getD (st+1+t) 0)<|70+t) t) (mxS (ns.getD (st+1+t) 0)<|70+t)]:=by unfold sP;rw[aLI,aJ];rfl
theorem aFc(hT:∀f∈T,f∈bT p)(a n:Int){k:Nat}(hk:k<T.length):aCB T a n k∈bT p:=by
 unfold aCB
 split
 ·exact hT _<|getD_mem (gX _<|by omega).1
 ·exact hT _<|getD_mem hk
theorem aHi(hp:p∈bR)(hl:T.length=(bT p).length)(hT:∀f∈T,f∈bT p)(ns:List Int)(st:Nat):WN (bT p) (aDw p T ns st):=by refine⟨by unfold aDw sP;rw[aA,fQ];exact hl,λo ho c hc=> ?_⟩;obtain⟨k,hk,rfl⟩:=aE.mp ho;exact aKi hp (aFc hT _ _<|bP.mp hk) _ c hc
noncomputable def doQ(p:Int×Int)(w:List (Option (List<|List Int)))(T:List (List Int)):Bool:=(tM w (bT p) T).isNone
noncomputable def ftQ(p:Int×Int)(w:List (Option (List<|List Int)))(B:List Bk):Option Bk:=B.find? λe=>doQ p w e.2.2
noncomputable def oeD:Option Bk->D
 |none=>.non
 |some e=>enD e
noncomputable def lrD(p:Int×Int)(w:List (Option (List<|List Int)))(B:List Bk):D:=match ftQ p w B with
 |none=>.tup [.str "none",.lst<|B.map enD]
 |some e=>.tup [.str "row",.tup<|bJ e.2.1,.lst<|(B.filter λx=>decide<|x.1<e.1).map enD]
def aJN:List D->R->Prop:=λds r=>∃p L b B w,p∈bR/\StkOk p L/\BqOk p L b B/\oY p w/\ds=[cF p,.lst<|B.map enD,.lst<|w.map wsD]/\r=.val (oeD<|ftQ p w B)
def aMm:List D->R->Prop:=λds r=>∃p L b U w,p∈bR/\StkOk p L/\(L.map λs=>sqD s.1).Nodup/\FewR L b U/\oY p w/\ds=[cF p,.lst<|L.map skD,.int b,.lst<|w.map wsD]/\r=.val (lrD p w<|bkQ p L b)
theorem aKG(hp:p∈bR)(S:StkOk p L)(h:fX L row):aGS p (S45.tabQ (kI p L) (bT p) row):=⟨aEH hp S h,λws hw=>lN hp<|xB hp S h ws hw⟩
theorem aEf{b:Int}(O:BqOk p L b B){w:List (Option (List<|List Int))}{e:Bk}(h:ftQ p w B=some e):e∈B/\doQ p w e.2.2=true/\∀row,fX L row->S45.prQ (prK L) row<=b->doQ p w (S45.tabQ (kI p L) (bT p) row)=true->kle L e.2.1 row:=by
 obtain⟨h1,as,bs,e1,h2⟩:=yV.mp h;refine⟨by rw[e1];simp,h1,λrow ho hr hd=> ?_⟩;obtain⟨x,hx,x1,x2⟩:=O.all row ho hr;refine aII ?_ x2;rw[e1] at hx
 rcases aU.mp hx with hx|hx
 ·have:=h2 x hx;rw[x1] at this;simp[hd] at this
 ·rcases aW.mp hx with rfl|hx
  ·exact .inl rfl
  ·have:=O.srt;rw[e1,aJ,aZ] at this;have:=(dR.mp (eX.mp this).2.1).1;exact .inr (this x.2.1<|aE.mpr ⟨x,hx,rfl⟩)
theorem aDZ{b:Int}(O:BqOk p L b B){w:List (Option (List<|List Int))}(h:ftQ p w B=none):∀row,fX L row->S45.prQ (prK L) row<=b->doQ p w (S45.tabQ (kI p L) (bT p) row)=false:=λrow ho hr=>by obtain⟨x,hx,x1,x2⟩:=O.all row ho hr;have:=iZ.mp h x hx;rw[x1] at this;simpa using this
noncomputable def aGP(c:Int):Int×Int:=sz8L.getD (mxS c 30%8).toNat (1,1)
theorem aLz(c:Int):aGP c∈bR:=by
 have g8:∀p∈sz8L,p∈bR:=by decide+kernel
 exact g8 _<|getD_mem (gX _ (n:=8)<|by decide).1
def aMD:List D->R->Prop:=λds r=>∃c,ds=[.int c]/\r=.val (cF<|aGP c)
theorem aMa{α:Type}{R:α->α->Prop}(irr:∀a,¬ R a a)(asy:∀a b,R a b->¬ R b a):∀ (A B:List α),A.Pairwise R->B.Pairwise R->(∀x,x∈A↔x∈B)->A=B
 |[],[],_,_,_=>rfl
 |[],b::B,_,_,h=>(nomatch (h b).mpr aH)
 |a::A,[],_,_,h=>(nomatch (h a).mp aH)
 |a::A,b::B,h1,h2,h=>by
  obtain⟨a1,a2⟩:=dR.mp h1;obtain⟨b1,b2⟩:=dR.mp h2
  have e:a=b:=by
   rcases aW.mp ((h a).mp aH) with e|ha
   ·exact e
   ·rcases aW.mp ((h b).mpr aH) with e|hb
    ·exact e.symm
    ·exact(asy _ _ (a1 b hb)<|b1 a ha).elim
  subst e;rw[aMa irr asy A B a2 b2 λx=>⟨λhx=> ?_,λhx=> ?_⟩]
  ·rcases aW.mp ((h x).mp<|aI _ hx) with rfl|hx2
   ·exact(irr _<|a1 _ hx).elim
   ·exact hx2
  ·rcases aW.mp ((h x).mpr<|aI _ hx) with rfl|hx2
   ·exact(irr _<|b1 _ hx).elim
   ·exact hx2
theorem aJi{a c:List Nat}(h:kle L a c)(h2:kle L c a):a=c:=by
 rcases h with h|h
 ·exact h
 ·rcases h2 with h2|h2
  ·exact h2.symm
  ·exact(vF L _<|aBw h h2).elim
theorem aBu{a c:List Nat}(h:kle L a c):S45.prQ (prK L) a<=S45.prQ (prK L) c:=by
 rcases h with rfl|h|⟨h,_⟩
 ·exact zF _
 ·unfold rlt rkR at h;simp only at h;omega
 ·exact aQQ<|congrArg Prod.fst h
theorem aJc{α β:Type}{k:α->β}:∀ {l:List α}{x y:α},(l.map k).Nodup->x∈l->y∈l->k x=k y->x=y
 |[],_,_,_,h,_,_=>by cases h
 |z::l,x,y,nd,hx,hy,e=>by
  obtain⟨n1,n2⟩:=cC.mp (show(k z::l.map k).Nodup from nd)
  rcases aW.mp hx with h1|h1<;>rcases aW.mp hy with h2|h2
  ·rw[h1,h2]
  ·exact(n1<|aE.mpr ⟨y,h2,by rw[<-e,h1]⟩).elim
  ·exact(n1<|aE.mpr ⟨x,h1,by rw[e,h2]⟩).elim
  ·exact aJc n2 h1 h2 e
variable {b b':Int}{B':List Bk}
theorem BqOk.least(O:BqOk p L b B){e:Bk}(he:e∈B)(ho:fX L row)(hr:S45.prQ (prK L) row<=b)(ht:S45.tabQ (kI p L) (bT p) row=e.2.2):kle L e.2.1 row:=by obtain⟨x,hx,x1,x2⟩:=O.all row ho hr;have:x=e:=aJc O.nd hx he<|x1.trans ht;rw[<-this];exact x2
theorem aEc(O:BqOk p L b B)(O':BqOk p L b' B')(h:b'<=b):B'=B.filter λe=>decide (e.1<=b'):=by
 have ex:∀ {x y:Bk},x∈B->y∈B'->x.2.1=y.2.1->x=y:=λ{x y} hx hy e=>by obtain⟨_,h2,_,h4,_⟩:=O.ent x hx;obtain⟨_,g2,_,g4,_⟩:=O'.ent y hy;obtain⟨x1,x2,x3⟩:=x;obtain⟨y1,y2,y3⟩:=y;have e:x2=y2:=e;subst e;have h2:x1=_:=h2;have g2:y1=_:=g2;have h4:x3=_:=h4;have g4:y3=_:=g4;rw[h2,g2,h4,g4]
 refine aMa (R:=λx y:Bk=>klt L x.2.1 y.2.1) (λa=>vF L _) (λa c h1 h2=>vF L _<|aBw h1 h2) _ _ (eC.mp O'.srt) ((eC.mp O.srt).sublist rP) λx=> ?_
 rw[eZ,decide_eq_true_iff]
 constructor
 ·intro hx;obtain⟨h1,h2,h3,h4,_⟩:=O'.ent x hx;obtain⟨y,hy,y1,y2⟩:=O.all x.2.1 h1 (by omega);obtain⟨g1,g2,g3,g4,_⟩:=O.ent y hy;have le:S45.prQ (prK L) y.2.1<=S45.prQ (prK L) x.2.1:=aBu y2;have:=O'.least hx g1 (by omega) (by rw[<-g4,y1,h4]);have:=ex hy hx<|aJi y2 this;rw[<-this];exact⟨hy,by omega⟩
 ·rintro⟨hx,hb⟩;obtain⟨h1,h2,h3,h4,_⟩:=O.ent x hx;obtain⟨y,hy,y1,y2⟩:=O'.all x.2.1 h1 (by omega);obtain⟨g1,g2,g3,g4,_⟩:=O'.ent y hy;have:=O.least hx g1 (by omega) (by rw[<-g4,y1,h4]);rw[ex hx hy<|aJi this y2];exact hy
def FI(K:aB)(mg:Str->Option BH)(n:Str)(st:BN):Prop:=∃f fd,mg n=some (.ref f)/\Fun K n n st f fd
theorem FI.mk{h:BL}{mg:Str->Option BH}{n:Str}{st:BN}{od an:Option BJ}{sl:Array (Option BH)}{oc kV dc pm cd ct:BH}{f:BJ}(X:K.In h)(G:h.Ns AO mg)(a:dX K AO n=some (some<|.ref f))(l:K.lookup f=some ⟨oc,od,.func<|gC n n (kU st) (iG st) (bI st) .none kV dc pm an cd ct,sl⟩)(c:lA K cd n=true)(k:eG K (.ref f)=true):FI K mg n st:=⟨f,_,rA X G a,aID (st:=st) l c k⟩
structure Kit6(p:Int×Int)(L:List SK):Prop where
 pos:0<L.length
 le:L.length<=6
 st:∀s∈L,pQ p s.1/\1<=s.2/\s.2<=3
 nd:(L.map λs=>sqD s.1).Nodup
variable {L' M:List SK}{w:List (Option (List (List Int)))}
theorem FewR.less(h:FewR L b U)(hb:b'<=b):FewR L b' U:=⟨h.1,h.2,λrow ho hr=>h.3 row ho<|by omega⟩
theorem aFW(O:BqOk p L b B)(O':BqOk p L b' B')(hb:b'<=b)(h:∀e,ftQ p w B=some e->b'<e.1):ftQ p w B'=none:=by
 rw[aEc O O' hb];unfold ftQ at h ⊢;rw[List.find?_filter,iZ];intro x hx;cases hd:doQ p w x.2.2 with
 |false=>simp[hd]
 |true=>
  obtain⟨x1,x2,x3,x4,_⟩:=O.ent x hx;cases hf:B.find? (λe=>doQ p w e.2.2) with
  |none=>have:=iZ.mp hf x hx;simp[hd] at this
  |some e=>
   have h1:=h e hf;obtain⟨f1,f2,f3⟩:=aEf O (w:=w) hf;obtain⟨y1,y2,y3,y4,_⟩:=O.ent e f1;have:=aBu (f3 x.2.1 x1 (by omega)<|by rw[<-x4];exact hd);have:¬ x.1<=b':=by omega
   simp[this]
noncomputable abbrev E0:=Int×List Int×List (List Int)
noncomputable def e0D(e:E0):D:=.tup [.int e.1,bF e.2.1,.tup<|e.2.2.map bF]
noncomputable def yJ(n:Nat)(r:List Int):Bool:=r.all λi=>decide (0<=i)&&decide (i<(n:Int))
noncomputable def iQ(r:List Int):List Nat:=r.map pM
theorem xT{r:List Int}(h:yJ L.length r=true):fX L (iQ r)/\inR (iQ r)=r:=by
 have h:=bZ.mp h;refine⟨λi hi=> ?_, ?_⟩
 ·obtain⟨z,hz,rfl⟩:=aE.mp hi;have:=h z hz;rw[bC,decide_eq_true_iff,decide_eq_true_iff] at this;omega
 ·unfold inR iQ;rw[aR];refine(bQ λz hz=> ?_).trans<|iL r;have:=h z hz;rw[bC,decide_eq_true_iff,decide_eq_true_iff] at this;show((z.toNat:Nat):Int)=z;omega
theorem aJG{r:List Int}(h:yJ L.length r=true):bF r=.tup (bJ<|iQ r):=by rw[vH,(xT h).2];rfl
noncomputable def prE(L:List SK)(b:Int)(e:E0):Bool:=yJ L.length e.2.1&&(decide (e.1=S45.prQ (prK L) (iQ e.2.1))&&decide (e.1<=b))
noncomputable def vdE(p:Int×Int)(L:List SK)(b:Int)(e:E0):Bool:=prE L b e&&decide (e.2.2=S45.tabQ (kI p L) (bT p) (iQ e.2.1))
noncomputable def toB(E:List E0):List Bk:=E.map λe=>(e.1,iQ e.2.1,e.2.2)
noncomputable def okE(p:Int×Int)(L:List SK)(b:Int)(E:List E0):Bool:=(E.all<|vdE p L b)&&decide ((E.map λe=>e.2.2).Nodup)
structure ShE(E:List E0):Prop where
 len:E.length<=600
 rl:∀e∈E,e.2.1.length<=300
theorem aDP{E:List E0}(h:okE p L b E=true)(Sh:ShE E):BkOk p L b (toB E):=by
 obtain⟨h1,h2⟩:=eY.mp h;have h1:=bZ.mp h1;have h2:=of_decide_eq_true h2;refine⟨by unfold toB;rw[aA];have:=Sh.len;omega,λe he=> ?_, ?_⟩
 ·obtain⟨x,hx,rfl⟩:=aE.mp he;have v:=h1 x hx;unfold vdE prE at v;rw[bC,bC,bC,decide_eq_true_iff,decide_eq_true_iff,decide_eq_true_iff] at v;obtain⟨⟨v1,v2,v3⟩,v4⟩:=v;refine⟨v2,v3,(xT v1).1, ?_,v4⟩;show(iQ x.2.1).length<=400;unfold iQ;rw[aA];have:=Sh.rl x hx;omega
 ·unfold toB;rw[aR];exact h2
theorem aCg(E:List E0)(e:E0):toB (E++[e])=toB E++[(e.1,iQ e.2.1,e.2.2)]:=by unfold toB;rw[aJ];rfl
theorem xX(p:Int×Int)(L:List SK)(b:Int)(E:List E0)(e:E0):okE p L b (E++[e])=(okE p L b E&&(vdE p L b e&&!decide (e.2.2∈E.map λe=>e.2.2))):=by
 unfold okE;rw[aLJ,aJ];have e1:[e].all (vdE p L b)=vdE p L b e:=by simp
 have e2:decide ((E.map (λe=>e.2.2)++[e].map λe=>e.2.2).Nodup)=(decide ((E.map λe=>e.2.2).Nodup)&&!decide (e.2.2∈E.map λe=>e.2.2)):=by
  apply gI.mpr;rw[decide_eq_true_iff,bC,decide_eq_true_iff,oP,decide_eq_false_iff_not,bK]
  constructor
  ·rintro⟨a,_,c⟩;exact⟨a,λz=>c _ z _ (by simp) rfl⟩
  ·rintro⟨a,c⟩;refine⟨a,by simp,λx hx y hy z=>c ?_⟩;have:y=e.2.2:=by simpa using hy
   rw[<-this,<-z];exact hx
 rw[e1,e2];cases E.all (vdE p L b)<;>cases vdE p L b e<;>cases decide ((E.map λe=>e.2.2).Nodup)<;>rfl
theorem aED{p:Int×Int}{L:List SK}{b:Int}{E:List E0}:∀ {F:List E0},okE p L b E=false->okE p L b (E++F)=false
 |[],h=>by rw[cY];exact h
 |f::F,h=>by rw[show E++f::F=(E++[f])++F by simp];exact aED (by rw[xX,h];rfl)
theorem aHy{E:List E0}{t:Nat}(h:okE p L b (E.take t)=false):okE p L b E=false:=by rw[<-fU t E];exact aED h
def aCe:List D->R->Prop:=λds r=>∃ (L:List SK) (row:List Int),row.length<=300/\ds=[.lst<|L.map skD,bF row]/\r=.val (.bl<|yJ L.length row)
def aEK:List D->R->Prop:=λds r=>∃ (L:List SK) (b:Int) (e:E0),e.2.1.length<=300/\ds=[.lst<|L.map skD,.int b,.int e.1,bF e.2.1]/\r=.val (.bl<|prE L b e)
def aIu(P:AD)(w:AL)(K:aB):List D->R->Prop:=λds r=>∃p L b E,p∈bR/\StkOk p L/\ShE E/\ds=[cF p,.lst<|L.map skD,.lst (L.map<|mvD p),.int b,.lst<|E.map e0D]/\r=.val (if okE p L b E=true then pcD P w K p L (toB E) else .non)
noncomputable def hoE(p:Int×Int)(L:List SK)(b:Int)(E:List E0):Bool:=okE p L b E&&aOD p L b (toB E)
def aCh:List D->R->Prop:=λds r=>∃p L b E,p∈bR/\StkOk p L/\(L.map λs=>sqD s.1).Nodup/\ShE E/\0<=b/\ds=[cF p,.lst<|L.map skD,.int b,.lst<|E.map e0D]/\r=.val (.bl<|hoE p L b E)
theorem aMn{E:List E0}(h:okE p L b E=true):(toB E).map enD=E.map e0D:=by
 unfold toB;rw[aR];refine bQ λe he=> ?_
 have v:=bZ.mp (eY.mp h).1 e he;unfold vdE prE at v;have v1:=(eY.mp (eY.mp v).1).1;show D.tup [.int e.1,.tup (bJ<|iQ e.2.1),.tup<|e.2.2.map bF]=D.tup [.int e.1,bF e.2.1,.tup<|e.2.2.map bF];rw[aJG v1]
theorem aLe:decide (nb∈B.map λe=>nrQ p L e.2.1)=true↔iD nb∈ksB p L B:=by
 rw[decide_eq_true_iff]
 constructor
 ·intro h;obtain⟨x,hx,rfl⟩:=aE.mp h;exact aE.mpr ⟨x,hx,rfl⟩
 ·intro h;obtain⟨x,hx,e⟩:=aE.mp h;exact aE.mpr ⟨x,hx,tG e⟩
theorem aJX{E:List E0}{e:E0}(hp:p∈bR)(S:StkOk p L)(h:okE p L b E=true)(Sh:ShE E)(hv:prE L b e=true):okE p L b (E++[e])= !(decide (nrQ p L (iQ e.2.1)∈(toB E).map λe=>nrQ p L e.2.1)||!decide (e.2.2=jC p (nrQ p L<|iQ e.2.1))):=by
 have O:=aDP h Sh;have ro:=(xT (eY.mp hv).1).1;obtain⟨n1,n2⟩:=qU hp (λs hs=>(S.st s hs).1) ro;rw[xX,h,iM];unfold vdE;rw[hv,iM,n2]
 by_cases q:e.2.2=S45.tabQ (kI p L) (bT p) (iQ e.2.1)
 ·rw[decide_eq_true q,iM,jG,Bool.or_false];congr 1;apply gI.mpr;rw[decide_eq_true_iff,decide_eq_true_iff]
  constructor
  ·intro hm;obtain⟨x,hx,ex⟩:=aE.mp hm;have xm:(x.1,iQ x.2.1,x.2.2)∈toB E:=aE.mpr ⟨x,hx,rfl⟩;obtain⟨a1,a2⟩:=O.nr hp S xm;refine aE.mpr ⟨_,xm, ?_⟩;rw[xE hp a1 n1<|by rw[a2,n2,<-q];exact ex]
  ·intro hm;obtain⟨x,hx,ex⟩:=aE.mp hm;obtain⟨y,hy,ey⟩:=aE.mp hx;have en:nrQ p L x.2.1=nrQ p L (iQ e.2.1):=ex;obtain⟨a1,a2⟩:=O.nr hp S hx;refine aE.mpr ⟨y,hy, ?_⟩;have:x.2.2=y.2.2:=by rw[<-ey]
   rw[<-this,<-a2,en,n2,q]
 ·rw[decide_eq_false q,lF,qZ,aQj];rfl
namespace S45
variable {T:Type}[DecidableEq T]{n:Nat}{pr:Nat->Int}{beh:Nat->T->T}{t0:T}
end S45
end DL
namespace DL
open PySem PySem.Spec PyProof.Rows L2
noncomputable def bk0(B:List Bk):List E0:=B.map λe=>(e.1,inR e.2.1,e.2.2)
theorem sX(row:List Nat):iQ (inR row)=row:=by unfold iQ inR;rw[aR];exact(bQ λi _=>dO i).trans<|iL row
theorem vI(B:List Bk):toB (bk0 B)=B:=by unfold toB bk0;rw[aR];refine(bQ λe _=> ?_).trans<|iL B;show(e.1,iQ<|inR e.2.1,e.2.2)=e;rw[sX]
theorem zX(B:List Bk):(bk0 B).map e0D=B.map enD:=by
 unfold bk0;rw[aR];refine bQ λe _=> ?_
 show D.tup [.int e.1,bF<|inR e.2.1,.tup<|e.2.2.map bF]=D.tup [.int e.1,.tup<|bJ e.2.1,.tup<|e.2.2.map bF];rw[vH];rfl
theorem aLr{L:List SK}{row:List Nat}(h:fX L row):yJ L.length (inR row)=true:=by unfold yJ inR;rw[aQg,bZ];intro i hi;have:=h i hi;show(decide (0<=(i:Int))&&decide ((i:Int)<(L.length:Int)))=true;rw[decide_eq_true<|by omega,decide_eq_true<|by omega];rfl
theorem aMH{p:Int×Int}{L:List SK}{b:Int}{B:List Bk}(O:BkOk p L b B):okE p L b (bk0 B)=true:=by
 unfold okE;rw[bC,bZ,decide_eq_true_iff];refine⟨λx hx=> ?_, ?_⟩
 ·obtain⟨e,he,rfl⟩:=aE.mp hx;obtain⟨h1,h2,h3,h4,h5⟩:=O.ent e he;unfold vdE prE;show(yJ L.length (inR e.2.1)&&(decide (e.1=S45.prQ (prK L) (iQ<|inR e.2.1))&&decide (e.1<=b))&&decide (e.2.2=S45.tabQ (kI p L) (bT p) (iQ<|inR e.2.1)))=true;rw[sX,aLr h3,decide_eq_true h1,decide_eq_true h2,decide_eq_true h5];rfl
 ·unfold bk0;rw[aR];exact O.nd
theorem aNK{p:Int×Int}{L:List SK}{b:Int}{B:List Bk}(hp:p∈bR)(S:StkOk p L)(O:BkOk p L b B)(h:S45.HoldsP L.length (prK L) (kI p L) b B):hoE p L b (bk0 B)=true:=by unfold hoE;rw[aMH O,vI,aPx hp S O h];rfl
theorem aPF(e:E0):pl (e0D e)=true:=by show(true&&(pl (bF e.2.1)&&(plL (e.2.2.map bF)&&true)))=true;rw[tN,oB];rfl
theorem aNB(e:E0):dep (e0D e)<=3:=by show max 0 (max (dep<|bF e.2.1)<|max (jT (e.2.2.map bF)+1) 0)+1<=3;have:=nO e.2.2;rw[sC];omega
theorem aOa(E:List E0):plL (E.map e0D)=true/\jT (E.map e0D)<=3:=⟨tE e0D aPF E,qK e0D 3 aNB E⟩
noncomputable abbrev Tp:=List (List Int)×Int
theorem BqOk.bk{p:Int × Int}{L:List SK}{b:Int}{B:List Bk}(O:BqOk p L b B):BkOk p L b B:=⟨by have:=O.len; omega,fun e he=>by
 obtain⟨h1,h2,h3,h4,h5⟩:=O.ent e he
 exact⟨h2,h3,h1,by omega,h4⟩,O.nd⟩
theorem BqOk.hp{p:Int×Int}{L:List SK}{b:Int}{B:List Bk}(O:BqOk p L b B)(hpr:∀k,k<L.length->1<=prK L k)(h0:0<=b):S45.HoldsP L.length (prK L) (kI p L) b B:=by
 refine⟨?_,λe he k hk hb=> ?_⟩
 ·obtain⟨e,he,_,h⟩:=O.st h0;exact⟨e,he,aKA hpr (O.ent e he).1 h⟩
 ·obtain⟨e',he',h1,h2⟩:=O.cl e he k hk hb;refine⟨e',he',h1, ?_⟩;have:=aBu h2;obtain⟨_,g2,_⟩:=O.ent e' he';obtain⟨_,g3,_⟩:=O.ent e he
  have e3:S45.prQ (prK L) (e.2.1++[k])=S45.prQ (prK L) e.2.1+prK L k:=by unfold S45.prQ;rw[aJ,mJ];simp
  omega
variable {X:Cx}{sd:List Slot}{e e1 e2 a b c tg iter o:Expr}{es:List Expr}{pos:Pos}{r ra rb:R}{d d':D}{ds ls:List D}{st:BN}{rest:List BN}{E:kE}
theorem aKD{i:Int}(ha:PEd X sd a (.val<|.tup ds))(hb:PEd X sd b (.val<|.int i))(hd:atI ds i=some d)(hs:oZ b):PEd X sd (.Subscript a b pos) (.val d):=.mk λσ F H S=>
 (aGK aIq gP gP hs).to ((ha σ F H S).imp fun v H1 ⟨F1,S1,s1,q1⟩=>(hb σ F1 H1 S1).imp fun u H2 ⟨F2,S2,s2,q2⟩=>by
  have q1:=Rep.mono s2 q1;simp only[ResOk,Rep] at q1 q2;obtain⟨p,xs,e1,hp,rl⟩:=q1;obtain⟨w,hw,rw'⟩:=rl.atI hd
  exact⟨p,xs,i,w,e1,q2,.of (S2.sub _ _ hp),hw,F2,S2,s1.trans s2,rw'⟩)
variable {p:Int×Int}{L:List SK}{b m:Int}{B as bs:List Bk}{w:List (Option (List (List Int)))}{E:List E0}{x:E0}{e:Bk}
def aEy:List D->R->Prop:=λds r=>∃p L b E w,p∈bR/\StkOk p L/\(L.map λs=>sqD s.1).Nodup/\ShE E/\0<=b/\oY p w/\(hoE p L b E=true->BqOk p L b (toB E))/\ds=[cF p,.lst<|L.map skD,.int b,.lst<|w.map wsD,.lst<|E.map e0D]/\r=.val (.bl (hoE p L b E&&(ftQ p w<|toB E).isNone))
def tO:List D->R->Prop:=λds r=>∃p L b E w,p∈bR/\StkOk p L/\(L.map λs=>sqD s.1).Nodup/\ShE E/\0<=b/\oY p w/\(hoE p L b E=true->BqOk p L b (toB E))/\ds=[cF p,.lst<|L.map skD,.int b,.lst<|w.map wsD,.lst<|E.map e0D,.bl (hoE p L b E&&(ftQ p w<|toB E).isNone)]/\r=.val (.bl true)
theorem aNd{α:Type}{E:kE}(S:α->List Slot)(Q:α->Prop)(h:(∀a,Q a->PSd X (S a) rest E)->PSd X sd (st::rest) E)(k:∀a,Q a->PSd X (S a) rest E):PSd X sd (st::rest) E:=h k
theorem aOc(o:Option Bk):isN (oeD o)=o.isNone:=by cases o<;>rfl
theorem aIS(O:BqOk p L b B):ShE (bk0 B):=by refine⟨by unfold bk0;rw[aA];have:=O.len;omega,λx hx=> ?_⟩;obtain⟨e,he,rfl⟩:=aE.mp hx;show(inR e.2.1).length<=300;unfold inR;rw[aA];exact(O.ent e he).2.2.2.2
theorem aOd(hx:x∈E)(hv:vdE p L b x=false):hoE p L b E=false:=by
 have:okE p L b E=false:=by
  unfold okE
  have:E.all (vdE p L b)=false:=gY.mpr λz=>by rw[bZ.mp z x hx] at hv;cases hv
  rw[this];rfl
 unfold hoE;rw[this];rfl
theorem aNc(h:¬ (E.map λe=>e.2.2).Nodup):hoE p L b E=false:=by unfold hoE okE;rw[decide_eq_false h,nD];rfl
theorem aNL(hp:p∈bR)(S:StkOk p L)(O:BqOk p L b (as++e::bs)):hoE p L b (bk0<|as++bs)=false:=by
 refine gY.mpr λz=> ?_
 obtain⟨z1,z2⟩:=eY.mp z
 have Sh:ShE (bk0<|as++bs):=by
  refine⟨?_,λx hx=> ?_⟩
  ·unfold bk0;have:=O.len;rw[aQ,bU] at this;rw[aA,aQ];omega
  ·obtain⟨y,hy,rfl⟩:=aE.mp hx;show(inR y.2.1).length<=300;unfold inR;rw[aA];refine(O.ent y ?_).2.2.2.2
   rcases aU.mp hy with h|h
   ·exact bN _ h
   ·exact aM _<|aI _ h
 have O':=aDP z1 Sh;rw[vI] at z2 O';obtain⟨st,cl⟩:=(aAb hp S O').mp z2;have nd:=O.nd;rw[aJ,aZ] at nd
 have ne:∀y∈as++bs,y.2.2≠e.2.2:=λy hy q=>by
  have n1:=bK.mp nd
  rcases aU.mp hy with h|h
  ·exact n1.2.2 _ (aE.mpr ⟨y,h,rfl⟩) _ aH q
  ·exact(cC.mp n1.2.1).1<|aE.mpr ⟨y,h,q⟩
 have mem:∀y∈as++e::bs,y≠e->y∈as++bs:=λy hy q=>by
  rcases aU.mp hy with h|h
  ·exact bN _ h
  ·rcases aW.mp h with h|h
   ·exact(q h).elim
   ·exact aM _ h
 have sub:∀y∈as++bs,y∈as++e::bs:=λy hy=>by
  rcases aU.mp hy with h|h
  ·exact bN _ h
  ·exact aM _<|aI _ h
 have he:e∈as++e::bs:=aM _ aH;obtain⟨e1,e2,e3,e4,_⟩:=O.ent e he
 rcases List.eq_nil_or_concat e.2.1 with q|⟨r,k,q⟩
 ·obtain⟨y,hy,y0⟩:=st;obtain⟨_,_,_,y4,_⟩:=O.ent y<|sub y hy;exact ne y hy (by rw[y4,e4,y0,q])
 ·have q:e.2.1=r++[k]:=by rw[q,List.concat_eq_append]
  have hr:fX L r:=λi hi=>e1 i (by rw[q];exact bN _ hi)
  have hk:k<L.length:=e1 k (by rw[q];simp);have k1:=S.pr k hk
  have pe:S45.prQ (prK L) e.2.1=S45.prQ (prK L) r+prK L k:=by rw[q];unfold S45.prQ;rw[aJ,mJ];simp
  obtain⟨y,hy,y1,y2⟩:=O.all r hr (by omega);have y3:=aBu y2;obtain⟨_,g2,_⟩:=O.ent y hy;obtain⟨z,hz,z3,_⟩:=cl y (mem y hy λq=>by rw[q] at g2 y3;omega) k hk (by omega);exact ne z hz (by rw[z3,y1,e4,q,S45.tab_snoc])
theorem aKX(h:e.1=S45.prQ (prK L) e.2.1):vdE p L b (e.1+1,inR e.2.1,e.2.2)=false:=by unfold vdE prE;show(yJ L.length (inR e.2.1)&&(decide (e.1+1=S45.prQ (prK L) (iQ<|inR e.2.1))&&_)&&_)=false;rw[sX,decide_eq_false<|by omega];simp
theorem aKQ:vdE p L b (e.1,inR e.2.1++[(L.length:Int)],e.2.2)=false:=by
 unfold vdE prE yJ;show((inR e.2.1++[(L.length:Int)]).all _&&_&&_)=false;rw[aLJ];have:([(L.length:Int)].all λi=>decide (0<=i)&&decide (i<(L.length:Int)))=false:=by simp
 rw[this];simp
theorem aJQ(S:StkOk p L)(h:e.1=S45.prQ (prK L) e.2.1):vdE p L b (e.1,inR e.2.1++[0],e.2.2)=false:=by
 have k1:=S.pr 0 S.pos
 have n1:iQ (inR e.2.1++[0])=e.2.1++[0]:=by have:=sX e.2.1;unfold iQ at this ⊢;rw[aJ,this];rfl
 have pe:S45.prQ (prK L) (e.2.1++[0])=S45.prQ (prK L) e.2.1+prK L 0:=by unfold S45.prQ;rw[aJ,mJ];simp
 unfold vdE prE;show(_&&(decide (e.1=S45.prQ (prK L) (iQ<|inR e.2.1++[0]))&&_)&&_)=false;rw[n1,decide_eq_false<|by omega];simp
noncomputable def plW(p:Int×Int):List (Option (List<|List Int)):=(bT p).map λf=>some [f]
theorem aMZ(hp:p∈bR):oY p (plW p):=by refine WN.wish hp ⟨by unfold plW;rw[aA],λo ho c hc=> ?_⟩;obtain⟨f,hf,rfl⟩:=aE.mp ho;obtain rfl:=cA.inj hc;exact⟨by simp,by simp,λy hy=>by rw[aN.mp hy];exact hf⟩
theorem aHP(O:BqOk p L b B)(hb:0<=b):(ftQ p (plW p) B).isNone=false:=by
 cases h:ftQ p (plW p) B with
 |some e=>rfl
 |none=>
  have:=aDZ O h [] (λi hi=>(nomatch hi)) hb
  have d:doQ p (plW p) (bT p)=true:=miss_iff.mpr λj hj=>by
   unfold aLB plW;have:((bT p).map λf=>some [f]).getD j none=some [(bT p).getD j []]:=by simp[bX,hj]
   rw[this];simp
  have e:S45.tabQ (kI p L) (bT p) []=bT p:=rfl;rw[e,d] at this;cases this
theorem aPV(hp:p∈bR)(S:StkOk p L)(O:BqOk p L b B)(hb:0<=b):hoE p L b (bk0 B)=true:=aNK hp S O.bk<|O.hp S.pr hb
theorem aPA(C:List Bk)(i:Nat):DL.cutD (C.map enD) none (some (i:Int))=(C.take i).map enD/\DL.cutD (C.map enD) (some<|(i:Int)+1) none=(C.drop<|i+1).map enD:=by
 constructor
 ·rw[aFM,lW]
 ·have e:(i:Int)+1=((i+1:Nat):Int):=by omega
  rw[e,aAa,kH]
theorem aLD{α:Type}{us:List α}{n:Nat}(h:us.length=n+1):∃a r,us=a::r/\r.length=n:=by
 cases us with
 |nil=>cases h
 |cons a r=>exact⟨a,r,rfl,Nat.succ.inj h⟩
theorem aQC{α:Type}{us:List α}(h:us.length=1):∃a,us=[a]:=by obtain⟨a,r,rfl,h2⟩:=aLD h;exact⟨a,by rw[fR h2]⟩
theorem aQF{α:Type}{us:List α}(h:us.length=2):∃a b,us=[a,b]:=by obtain⟨a,r,rfl,h2⟩:=aLD h;obtain⟨b,rfl⟩:=aQC h2;exact⟨a,b,rfl⟩
theorem aQD{α:Type}{us:List α}(h:us.length=3):∃a b c,us=[a,b,c]:=by obtain⟨a,r,rfl,h2⟩:=aLD h;obtain⟨b,c,rfl⟩:=aQF h2;exact⟨a,b,c,rfl⟩
theorem aQo{α:Type}{us:List α}(h:us.length=4):∃a b c d,us=[a,b,c,d]:=by obtain⟨a,r,rfl,h2⟩:=aLD h;obtain⟨b,c,d,rfl⟩:=aQD h2;exact⟨a,b,c,d,rfl⟩
theorem aQp{α:Type}{us:List α}(h:us.length=5):∃a b c d e,us=[a,b,c,d,e]:=by obtain⟨a,r,rfl,h2⟩:=aLD h;obtain⟨b,c,d,e,rfl⟩:=aQo h2;exact⟨a,b,c,d,e,rfl⟩
theorem len6{α:Type}{us:List α}(h:us.length=6):∃a b c d e f,us=[a,b,c,d,e,f]:=by obtain⟨a,r,rfl,h2⟩:=aLD h;obtain⟨b,c,d,e,f,rfl⟩:=aQp h2;exact⟨a,b,c,d,e,f,rfl⟩
theorem cN{P:AD}{w:AL}{K:aB}{mg:Str->Option BH}{base:BL}{x qual:Str}{f:BJ}{fd:AW}{N ps:List Str}{k:Nat}{C:List D->R->Prop}(F:Fun K x qual st f fd)(hm:mg x=some (.ref f))
  (body:∀ (cdv:BH) (A:BK) (outer:List Env) (s:BI) (H:Hp) (E:XK),Room k (A.deeper (Af qual (bI st) s.heap.objs.size f cdv))→∀ds r,ds.length=ps.length→C ds r→
   PSd (nG CX0 P w K mg base N qual (bI st) f cdv A outer s H E).nox (init N.length ds) (iG st) {nx:=λ_=>r=.val .non,rt:=λr'=>r'=r})
  (S:pB N ps (bI st):=by exact⟨rfl,rfl,rfl,by assumption,rfl,by decide+kernel,by decide+kernel⟩)
  (hb:∀ (kV doc pm:BH) (an:Option BJ) (cdv ct:BH) (us:List BH),us.length=ps.length→bindArgs (gC x qual (kU st) (iG st) (bI st) .none kV doc pm an cdv ct) ⟨us,[]⟩=pure (ps.zip us):=by
   intro _ _ _ _ _ _ _ h
   first
   |(obtain⟨_,rfl⟩:=aQC h;rfl)
   |(obtain⟨_,_,rfl⟩:=aQF h;rfl)
   |(obtain⟨_,_,_,rfl⟩:=aQD h;rfl)
   |(obtain⟨_,_,_,_,rfl⟩:=aQo h;rfl)
   |(obtain⟨_,_,_,_,_,rfl⟩:=aQp h;rfl)
   |(obtain⟨_,_,_,_,_,_,rfl⟩:=len6 h;rfl)):bH P w K mg base x (k+1) ps.length C:=aMX F S hm hb body
variable {e:Expr}{p:Pos}{E:kE}{x:Str}
theorem pdv(i:Nat)(hs:sd[i]? =some (.val d):=by rfl)(h:PE X (.Name x pos) (mW i):=by exact pv _):PEd X sd (.Name x pos) (.val d):=kR i hs h
theorem iB(i:Nat)(h:PEd X sd e (.val d))(hE:E.nx (sd.set i<|.val d))(hN:X.N.Nodup:=by assumption)(hi:X.N[i]? =some x:=by rfl)(hx:Loc X.env.scope x:=by first|exact Or.inl rfl|exact Or.inr rfl)(hs:Ag e (some<|.Name x p) pos.line X.env=pure false:=by rfl)
  (hf:X.fn x=true\/X.env.scope.names.lookup x=some .local:=by first|exact .inl rfl|exact .inr rfl|assumption):PSd1 X sd (.Assign [.Name x p] e pos) E:=jZ i hN hi hx h hE hs hf
theorem tU(i:Nat)(h:PEd X sd e (.own ds))(hE:∀l,E.nx (sd.set i<|.own l ds))(hN:X.N.Nodup:=by assumption)(hi:X.N[i]? =some x:=by rfl)(hx:Loc X.env.scope x:=by first|exact Or.inl rfl|exact Or.inr rfl)(hs:Ag e (some<|.Name x p) pos.line X.env=pure false:=by rfl)
  (hf:X.fn x=true\/X.env.scope.names.lookup x=some .local:=by first|exact .inl rfl|exact .inr rfl|assumption):PSd1 X sd (.Assign [.Name x p] e pos) E:=sW i hN hi hx h hE hs hf
theorem pgn(i:Nat)(hN:X.N.Nodup:=by assumption)(hi:X.N[i]? =some x:=by rfl)(hx:Loc X.env.scope x:=by first|exact Or.inl rfl|exact Or.inr rfl)(hf:X.fn x=true\/X.env.scope.names.lookup x=some .local:=by first|exact .inl rfl|exact .inr rfl|assumption):PG X (.Name x pos) (aDt i):=aKl hN hi hx hf
end DL
set_option maxHeartbeats 400000
namespace K52
open PySem PySem.Spec PyProof.Rows L2 DL
noncomputable def top(i:Nat):BN:=PySem.Challenge.pw_leastrow_k52_what_shows_none.main.body.getD i<|.Pass ⟨0,0,0,0⟩
noncomputable abbrev aJf:BN:=top 4
noncomputable abbrev aIk:BN:=top 5
noncomputable abbrev aDx:BN:=top 6
noncomputable abbrev aMx:BN:=top 7
noncomputable abbrev aQN:BN:=top 8
noncomputable abbrev aEM:BN:=top 11
noncomputable abbrev aBQ:BN:=top 12
noncomputable abbrev aBR:BN:=top 13
noncomputable abbrev aCt:BN:=top 15
noncomputable abbrev aDX:BN:=top 14
noncomputable abbrev aOJ:BN:=top 18
noncomputable abbrev aDG:BN:=top 19
noncomputable abbrev aJE:BN:=top 20
noncomputable abbrev aOP:BN:=top 21
noncomputable abbrev sFd:BN:=top 22
noncomputable abbrev aDK:BN:=top 23
noncomputable abbrev aJP:BN:=top 24
noncomputable abbrev aMG:BN:=top 29
noncomputable abbrev aBd:BN:=top 26
noncomputable abbrev aDE:BN:=top 27
noncomputable abbrev aMi:BN:=top 30
noncomputable abbrev aOq:BN:=top 31
noncomputable abbrev aOI:BN:=top 32
noncomputable abbrev aBE:BN:=top 34
noncomputable abbrev aOR:BN:=top 33
noncomputable abbrev aDO:BN:=top 35
noncomputable abbrev aJC:BN:=top 37
noncomputable abbrev aLY:BN:=top 38
noncomputable abbrev sFt:BN:=top 40
noncomputable abbrev sLr:BN:=top 41
noncomputable abbrev aME:BN:=top 42
noncomputable abbrev aEt:BN:=top 44
noncomputable abbrev aJd:BN:=top 45
noncomputable abbrev aDA:BN:=top 46
noncomputable abbrev aIA:BN:=top 47
noncomputable abbrev aQl:BN:=top 48
noncomputable abbrev aDU:BN:=top 50
noncomputable abbrev aOQ:BN:=top 53
noncomputable abbrev aMb:BN:=top 49
noncomputable abbrev aJt:BN:=top 51
noncomputable abbrev aQI:BN:=top 52
noncomputable abbrev aOW:BN:=top 55
noncomputable abbrev aOv:BN:=top 54
noncomputable abbrev aOO:BN:=top 57
noncomputable abbrev aGL:BN:=top 58
noncomputable abbrev aMy:BN:=top 59
noncomputable abbrev sRi:BN:=top 61
noncomputable abbrev sN:BN:=top 62
variable {P:AD}{w:AL}{K:aB}{mg:Str->Option BH}{base:BL}{f:BJ}{fd:AW}
def aIw:List D->R->Prop:=λds r=>∃d,ds=[d]/\(Unit->∃i,d=.int i)/\r=.val (.bl true)
theorem aHG(F:Fun K "is_whole" "is_whole" aJf f fd)(zisinstance:mg "isinstance"=none)(zint:mg "int"=none)(zbool:mg "bool"=none)(hm:mg "is_whole"=some (.ref f)):bH P w K mg base "is_whole" 1 1 aIw:=by
 have nd:(["thing"]:List Str).Nodup:=by decide+kernel
 refine cN (N:=["thing"]) (ps:=["thing"]) (k:=0) F hm λcdv A outer s H E hr ds r hl c=> ?_
 obtain⟨d,rfl,hd,rfl⟩:=c;obtain⟨i,rfl⟩:=hd ();exact aY<|bL (PEd.cast (oX (aAZ rfl zisinstance rfl zint PyProof.Rows.boot_int (pdv 0) (λ_=>by simp) (aKY _<|.int i)) λ_=>rB (aNj<|aAZ rfl zisinstance rfl zbool PyProof.Rows.boot_bool (pdv 0) (λ_=>by simp) (aCq _<|.int i))) rfl) trivial rfl
theorem aLX(q:SQ):pl (sqD q)=true:=by
 show pl (jF _ _ _ _)=true;unfold jF
 split
 ·rfl
 ·split<;>rfl
theorem aNk(q:SQ):dep (sqD q)=1:=by
 show dep (jF _ _ _ _)=1;unfold jF
 split
 ·rfl
 ·split<;>rfl
theorem aEZ{α:Type}(g:α->D)(h:∀a,pl (g a)=true):∀l:List α,plL (l.map g)=true
 |[]=>rfl
 |a::l=>by show(pl (g a)&&plL (l.map g))=true;rw[h a,aEZ g h l];rfl
theorem aCp{α:Type}(g:α->D)(n:Nat)(h:∀a,dep (g a)<=n):∀l:List α,jT (l.map g)<=n
 |[]=>bW _
 |a::l=>Nat.max_le.mpr ⟨h a,aCp g n h l⟩
def aBx:List D->R->Prop:=λds r=>∃p:Int×Int,ds=[cF p]/\0<=p.1/\p.1<=60/\r=.val (.int<|2^p.1.toNat)
theorem aHb(F:Fun K "word_count" "word_count" aIk f fd)(zrange:mg "range"=none)(hm:mg "word_count"=some (.ref f)):bH P w K mg base "word_count" 1 1 aBx:=by
 have nd:(["size","count","bit"]:List Str).Nodup:=by decide+kernel
 refine cN (N:=["size","count","bit"]) (ps:=["size"]) (k:=0) F hm λcdv A outer s H E hr ds r hl c=> ?_
 obtain⟨p,rfl,h0,h1,rfl⟩:=c;have ep:p.1=((p.1.toNat:Nat):Int):=by omega
 refine aF<|jZ 1 nd rfl (Or.inl rfl) bB ?_;refine aF<|vJ (ds:=jR 0 p.1.toNat) (λk=>[.val<|cF p,.val (.int<|2^k),.un]) (λk=>[.val<|cF p,.val (.int<|2^k),.val (.int<|0+(k:Int))]) (lH (n:=p.1.toNat) rfl zrange (PEd.cast (cZ (n:=0) (d:=.int p.1) (pdv 0) bB rfl λ_ _=>rfl)<|by rw[<-ep])<|by omega) ⟨.inr rfl,.inr rfl,.inr rfl,trivial⟩ (λi d hd=> ?_) (λi d hd=> ?_) ?_
 ·obtain⟨_,rfl⟩:=lJ hd;exact dY 2<|pgn 2
 ·refine aY<|jZ 1 nd rfl (Or.inl rfl) (cT jL (pdv 1) bB (aJy (by decide)<|by decide)) ?_;exact⟨.inr rfl,.inr rfl,.inl rfl,trivial⟩
 ·refine aY<|bL (pdv 1) trivial ?_;rw[iU]
def aMu:List D->R->Prop:=λds r=>∃ (L:List (List Int)) (m:Nat),ds=[.lst<|L.map bF,.int (m:Int)]/\L.length*m<=900/\m<=64/\(∀s∈L,s.length<=100)/\r=.own ((L.flatMap λs=>(bO m).map λ(w:Nat)=>s++[(w:Int)]).map bF)
abbrev nl0:List Str:=["starts","count","longer","start"]
theorem aLo(F:Fun K "with_each_word" "with_each_word" aDx f fd)(zrange:mg "range"=none)(hm:mg "with_each_word"=some (.ref f)):bH P w K mg base "with_each_word" 1 2 aMu:=by
 have nd:nl0.Nodup:=by decide+kernel
 refine cN (N:=nl0) (ps:=["starts","count"]) (k:=0) F hm λcdv A outer s H E hr ds r hl c=> ?_
 obtain⟨L,m,rfl,hL,hm64,hs,rfl⟩:=c;have nd2:(["word","start"]:List Str).Nodup:=by decide+kernel
 refine aF<|sW 2 nd rfl (Or.inl rfl) (hG (ds:=[]) aO<|bW _) λl=> ?_;refine aF<|vJ (ds:=L.map bF) (λk=>[.val (.lst<|L.map bF),.val<|.int (m:Int),.own l<|((L.take k).flatMap λs=>(bO m).map λ(w:Nat)=>s++[(w:Int)]).map bF,.un]) (λk=>[.val (.lst<|L.map bF),.val<|.int (m:Int),.own l<|((L.take k).flatMap λs=>(bO m).map λ(w:Nat)=>s++[(w:Int)]).map bF,.val (bF<|L.getD k [])]) (gH<|pdv 0) ⟨.inr rfl,.inr rfl,.inr rfl,.inr rfl,trivial⟩ (λk d hd=> ?_) (λk d hd=> ?_) ?_
 ·obtain⟨_,rfl⟩:=pW hd;exact dY 3<|pgn 3
 ·obtain⟨hk,rfl⟩:=pW hd;have hmem:L.getD k []∈L:=getD_mem hk
  have et:L.take (k+1)=L.take k++[L.getD k []]:=by rw[fO];simp[bX,hk]
  have lk:(L.take k).length*m+m<=900:=by
   have h1:(L.take k).length+1<=L.length:=by rw[cO];omega
   have h2:=aGw m h1;rw[aGn] at h2;omega
  have comp:∀ {pos:Pos},PEd (nG CX0 P w K mg base nl0 "with_each_word" (bI aDx) f cdv A outer s H E).nox [.val (.lst<|L.map bF),.val<|.int (m:Int),.own l<|((L.take k).flatMap λs=>(bO m).map λ(w:Nat)=>s++[(w:Int)]).map bF,.val (bF<|L.getD k [])] (match(iG aDx).getD 1 (.Pass ⟨0,0,0,0⟩) with | .For _ _ [.Expr (.Call _ [c] _ _) _] _ _=>c|_=> .Constant .none 0 ⟨0,0,0,0⟩) (.own (((jR 0 m).filter λ_=>true).map λd=>D.tup<|(L.getD k []).map D.int++[d])):=λ{pos}=>by
   refine iS (N:=["word","start"]) (M:=nl0) (cap:=[none,some 3]) (sc:=bI aDx) (Tb:=λd=>[.val d,.val (bF<|L.getD k [])]) (λ_=>true) (λd=>D.tup<|(L.getD k []).map D.int++[d]) (lH (n:=m) rfl zrange (pdv 1)<|by omega) (by rw[iU];omega) rfl (by decide+kernel) rfl (by decide+kernel) rfl (λcl C fp s H d _=>dY 0<|pgn 0) (λd _=>⟨.inl rfl,.inr rfl,trivial⟩) (λcl C fp s H d _=>.inl ⟨rfl,rfl⟩) λcl C fp s H d _ _=> ?_
   refine lO (pdv 1) (fY (ds:=[d]) (aC (pdv 0) aO)<|aG rfl) ?_;have:=hs _ hmem;simp only[aA,bU,iJ];omega
  have ec:((jR 0 m).filter λ_=>true).map (λd=>D.tup<|(L.getD k []).map D.int++[d])=((bO m).map λ(w:Nat)=>L.getD k []++[(w:Int)]).map bF:=by
   rw[cU.mpr λ_ _=>rfl];unfold jR;rw[aR,aR];refine bQ λw _=> ?_
   simp[bF]
  refine aY<|yE 2 rfl (pv 2) (PEd.val<|comp (pos:=⟨0,0,0,0⟩)) ?_ ?_
  ·rw[aA,pV,ec,aA,aA,fQ];omega
  ·refine⟨.inr rfl,.inr rfl,.inr ?_,.inl rfl,trivial⟩;rw[et,ec,aGv,aJ];simp
 ·refine aY<|nY 2 rfl (pv 2) ?_;show R.own _=R.own _;rw[aA,eQ]
def aDv:List D->R->Prop:=λds r=>∃p,p∈bR/\ds=[cF p]/\r=.own ((iW (2^p.1.toNat) p.2.toNat).map bF)
theorem aKC(F:Fun K "fillings" "fillings" aMx f fd)(zrange:mg "range"=none)(hm:mg "fillings"=some (.ref f))(GC:bH P w K mg base "word_count" 1 1 aBx)(GE:bH P w K mg base "with_each_word" 1 2 aMu):bH P w K mg base "fillings" 2 1 aDv:=by
 have nd:(["size","count","told","box"]:List Str).Nodup:=by decide+kernel
 refine cN (N:=["size","count","told","box"]) (ps:=["size"]) (k:=1) F hm λcdv A outer s H E hr ds r hl c=> ?_
 obtain⟨p,hp,rfl,rfl⟩:=c;obtain⟨h1,h2,h3,h4,h5⟩:=xQ p hp;have e2:p.2=((p.2.toNat:Nat):Int):=by omega
 have m64:2^p.1.toNat<=64:=by
  have:p.1.toNat<=6:=by omega
  exact cJ (mG (by decide) this)<|by decide
 have ec:(2:Int)^p.1.toNat=((2^p.1.toNat:Nat):Int):=by push_cast;rfl
 refine aF<|jZ 1 nd rfl (Or.inl rfl) (bM (ds:=[cF p]) GC hr rfl (aC (pdv 0) aO) ⟨p,rfl,by omega,by omega,rfl⟩ trivial rfl) ?_;refine aF<|tU (ds:=[bF []]) 2 (hG (ds:=[bF []]) (aC (fY (ds:=[]) aO<|bW _) aO)<|aG rfl) λl=> ?_;refine aF<|gO (ds:=jR 0 p.2.toNat) (λk sd=>∃l,sd=[.val<|cF p,.val (.int<|2^p.1.toNat),.own l<|(iW (2^p.1.toNat) k).map bF,.un]) (lH (n:=p.2.toNat) rfl zrange (PEd.cast (cZ (n:=1) (d:=.int p.2) (pdv 0) bB rfl λ_ _=>rfl)<|by rw[<-e2])<|by omega) ⟨_,Le.refl _,l,rfl⟩ (λk d sdk hd hk=> ?_) λsdn hn=> ?_
 ·obtain⟨hk2,rfl⟩:=lJ hd;obtain⟨l2,rfl⟩:=hk;refine⟨[.val<|cF p,.val (.int<|2^p.1.toNat),.own l2<|(iW (2^p.1.toNat) k).map bF,.val (.int<|0+(k:Int))],dY 3<|pgn 3, ?_⟩;refine jY 2 rfl ?_;refine aY (sW 2 nd rfl (Or.inl rfl) (bM (ds:=[.lst<|(iW (2^p.1.toNat) k).map bF,.int ((2^p.1.toNat:Nat):Int)]) GE hr rfl (aC (pdv 2)<|aC (PEd.cast (pdv 1)<|by rw[ec]) aO) ⟨iW (2^p.1.toNat) k,2^p.1.toNat,rfl, ?_,m64,λs hs=> ?_,rfl⟩ trivial rfl) λl3=> ?_)
  ·rw[sG];exact zU p hp k hk2
  ·rw[xJ _ _ s hs];omega
  ·exact⟨[.val<|cF p,.val (.int<|2^p.1.toNat),.own l3<|(iW (2^p.1.toNat)<|k+1).map bF,.un],⟨.inr rfl,.inr rfl,.inr rfl,.inl rfl,trivial⟩,l3,rfl⟩
 ·rw[iU] at hn;obtain⟨l2,rfl⟩:=hn;exact aY<|nY 2 rfl (pv 2) rfl
def aQM:List D->R->Prop:=λds r=>∃ (p:Int×Int) (ws:List Int),ds=[cF p,bF ws]/\0<=p.1/\p.1<=60/\r=.val (.int<|uV (2^p.1.toNat) ws)
abbrev nl1:List Str:=["size","filling","count","number","word"]
theorem aNo(F:Fun K "number_of" "number_of" aQN f fd)(hm:mg "number_of"=some (.ref f))(GC:bH P w K mg base "word_count" 1 1 aBx):bH P w K mg base "number_of" 2 2 aQM:=by
 have nd:nl1.Nodup:=by decide+kernel
 refine cN (N:=nl1) (ps:=["size","filling"]) (k:=1) F hm λcdv A outer s H E hr ds r hl c=> ?_
 obtain⟨p,ws,rfl,h0,h1,rfl⟩:=c
 have b1: -(2^64)<(2:Int)^p.1.toNat/\(2:Int)^p.1.toNat<2^64:=by
  have h3:p.1.toNat<=60:=by omega
  have h4:2^p.1.toNat<=2^60:=mG (by decide) h3;have h5:(2:Int)^p.1.toNat=((2^p.1.toNat:Nat):Int):=by push_cast;rfl
  rw[h5];have h6:(2:Nat)^60=1152921504606846976:=by decide
  rw[h6] at h4;generalize 2^p.1.toNat=q at h4 ⊢;omega
 refine aF<|jZ 2 nd rfl (Or.inl rfl) (bM (ds:=[cF p]) GC hr rfl (aC (pdv 0) aO) ⟨p,rfl,h0,h1,rfl⟩ trivial rfl) ?_;refine aF<|jZ 3 nd rfl (Or.inl rfl) bB ?_;refine aF<|vJ (ds:=ws.map D.int) (λk=>[.val<|cF p,.val<|bF ws,.val (.int<|2^p.1.toNat),.val<|.int (uV (2^p.1.toNat)<|ws.take k),.un]) (λk=>[.val<|cF p,.val<|bF ws,.val (.int<|2^p.1.toNat),.val<|.int (uV (2^p.1.toNat)<|ws.take k),.val (.int<|ws.getD k 0)]) (lZ<|pdv 1) ⟨.inr rfl,.inr rfl,.inr rfl,.inr rfl,.inr rfl,trivial⟩ (λk d hd=> ?_) (λk d hd=> ?_) ?_
 ·obtain⟨_,rfl⟩:=aBV hd;exact dY 4<|pgn 4
 ·obtain⟨hk,rfl⟩:=aBV hd
  have et:ws.take (k+1)=ws.take k++[ws.getD k 0]:=by rw[fO];simp[bX,hk]
  refine aY<|jZ 3 nd rfl (Or.inl rfl) (gE gZ (cT jL (pdv 3) (pdv 2)<|aJy b1.1 b1.2)<|pdv 4) ?_;refine⟨.inr rfl,.inr rfl,.inr rfl,.inr ?_,.inl rfl,trivial⟩;rw[et];unfold uV;rw[oN];rfl
 ·refine aY<|bL (pdv 3) trivial ?_;show R.val _=R.val _;rw[aA,eQ]
def aEX:List D->R->Prop:=λds r=>∃ (k:Nat) (m a:Int),ds=[.str<|nm k,.int m,.int a]/\7<=k/\k<10/\0<m/\r=.val (.int<|aMf k m a)
abbrev nl2:List Str:=["name","count","word"]
theorem aFi(F:Fun K "word_by_itself" "word_by_itself" aEM f fd)(hm:mg "word_by_itself"=some (.ref f)):bH P w K mg base "word_by_itself" 1 3 aEX:=by
 have nd:nl2.Nodup:=by decide+kernel
 refine cN (N:=nl2) (ps:=nl2) (k:=0) F hm λcdv A outer s H E hr ds r hl c=> ?_
 obtain⟨k,m,a,rfl,h7,h10,hm0,rfl⟩:=c;refine aF<|gG (k:=decide<|k=7) (cV (pdv 0) dL rfl rfl rfl<|aBI k h10) (λh=> ?_) λh=>cE ?_
 ·have:k=7:=by simpa using h
  subst this;exact aY<|bL (gE pR (gE pR (pdv 1) bB)<|pdv 2) trivial rfl
 have n7:¬ k=7:=by simpa using h
 refine aF<|gG (k:=decide<|k=8) (cV (pdv 0) dL rfl rfl rfl<|aGH k h10) (λh=> ?_) λh=>cE ?_
 ·have:k=8:=by simpa using h
  subst this;exact aY<|bL (cT fM (cT jL (pdv 2) bB (aJy (by decide)<|by decide)) (pdv 1) hm0) trivial rfl
 have n8:¬ k=8:=by simpa using h
 have:k=9:=by omega
 subst this;exact aY<|bL (cT aLa (pdv 2) bB ⟨by decide,by decide⟩) trivial rfl
def aCc:List D->R->Prop:=λds r=>∃ (k:Nat) (m a c:Int),ds=[.str<|nm k,.int m,.int a,.int c]/\k<6/\0<m/\r=.val (.int<|aGF k m a c)
abbrev nl3:List Str:=["name","count","word","other"]
theorem aCJ(F:Fun K "word_by_another" "word_by_another" aBQ f fd)(hm:mg "word_by_another"=some (.ref f)):bH P w K mg base "word_by_another" 1 4 aCc:=by
 have nd:nl3.Nodup:=by decide+kernel
 refine cN (N:=nl3) (ps:=nl3) (k:=0) F hm λcdv A outer s H E hr ds r hl c=> ?_
 obtain⟨k,m,a,c,rfl,h6,hm0,rfl⟩:=c;have h10:k<10:=by omega
 refine aF<|gG (k:=decide<|k=0) (cV (pdv 0) dL rfl rfl rfl<|aDW k h10) (λh=> ?_) λh=>cE ?_
 ·have:k=0:=by simpa using h
  subst this;exact aY<|bL (gE aIY (pdv 2)<|pdv 3) trivial rfl
 have n0:¬ k=0:=by simpa using h
 refine aF<|gG (k:=decide<|k=1) (cV (pdv 0) dL rfl rfl rfl<|aJO k h10) (λh=> ?_) λh=>cE ?_
 ·have:k=1:=by simpa using h
  subst this;exact aY<|bL (gE aMz (pdv 2)<|pdv 3) trivial rfl
 have n1:¬ k=1:=by simpa using h
 refine aF<|gG (k:=decide<|k=2) (cV (pdv 0) dL rfl rfl rfl<|aDz k h10) (λh=> ?_) λh=>cE ?_
 ·have:k=2:=by simpa using h
  subst this;exact aY<|bL (gE aIy (pdv 2)<|pdv 3) trivial rfl
 have n2:¬ k=2:=by simpa using h
 refine aF<|gG (k:=decide<|k=3) (cV (pdv 0) dL rfl rfl rfl<|aDI k h10) (λh=> ?_) λh=>cE ?_
 ·have:k=3:=by simpa using h
  subst this;exact aY<|bL (cT fM (gE gZ (pdv 2)<|pdv 3) (pdv 1) hm0) trivial rfl
 have n3:¬ k=3:=by simpa using h
 refine aF<|gG (k:=decide<|k=4) (cV (pdv 0) dL rfl rfl rfl<|aAP k h10) (λh=> ?_) λh=>cE ?_
 ·have:k=4:=by simpa using h
  subst this;exact aY<|bL (cT fM (gE pR (pdv 2)<|pdv 3) (pdv 1) hm0) trivial rfl
 have n4:¬ k=4:=by simpa using h
 have:k=5:=by omega
 subst this;exact aY<|bL (pdv 3) trivial rfl
structure aOM(p:Int×Int)(k:Nat)(i j n:Int)(ws:List Int):Prop where
 sz:p∈bR
 k10:k<10
 i0:0<=i/\i<p.2
 j0:0<=j/\j<p.2
 n0:0<=n/\n<((2^p.1.toNat:Nat):Int)
 len:ws.length=p.2.toNat
 wd:∀w∈ws,0<=w/\w<((2^p.1.toNat:Nat):Int)
noncomputable def aLP(p:Int×Int)(k:Nat)(i j n:Int)(ws:List Int):Int:=newW k ((2^p.1.toNat:Nat):Int) (ws.getD i.toNat 0) (ws.getD j.toNat 0) n
def aCi:List D->R->Prop:=λds r=>∃p k i j n ws,aOM p k i j n ws/\ds=[cF p,jF k i j n,bF ws]/\r=.val (.int<|aLP p k i j n ws)
theorem aNs(n:Nat):(0:Int)<((2^n:Nat):Int):=by have:0<2^n:=Nat.pow_pos (by decide);generalize 2^n=q at this ⊢;omega
theorem aJe{ws:List Int}{i:Int}{n:Nat}(h:ws.length=n)(h1:i<(n:Int))(h0:0<=i):(ws.map D.int)[i.toNat]? =some (.int<|ws.getD i.toNat 0):=by
 have:i.toNat<ws.length:=by omega
 simp[bX,this]
abbrev nl4:List Str:=["size","step","filling","name","word"]
theorem aCE(F:Fun K "new_word" "new_word" aBR f fd)(byself:∃ad,mg "BY_ITSELF"=some (.ref ad)/\∀H:Hp,SqT K H ad [V.str "not",V.str "up",V.str "down"])(hm:mg "new_word"=some (.ref f))(GC:bH P w K mg base "word_count" 1 1 aBx)(GI:bH P w K mg base "word_by_itself" 1 3 aEX)(GA:bH P w K mg base "word_by_another" 1 4 aCc):bH P w K mg base "new_word" 2 3 aCi:=by
 have nd:nl4.Nodup:=by decide+kernel
 refine cN (N:=nl4) (ps:=["size","step","filling"]) (k:=1) F hm λcdv A outer s H E hr ds r hl c=> ?_
 obtain⟨p,k,i,j,n,ws,O,rfl,rfl⟩:=c;obtain⟨h1,h2,h3,h4,h5⟩:=xQ p O.sz;have hm0:=aNs p.1.toNat;have ec:(2:Int)^p.1.toNat=((2^p.1.toNat:Nat):Int):=by push_cast;rfl
 have e2:p.2=((p.2.toNat:Nat):Int):=by omega
 obtain⟨ad,hB,hq⟩:=byself;have ai:(ws.map D.int)[i.toNat]? =some (.int<|ws.getD i.toNat 0):=aJe O.len (by have:=O.i0.2;omega) O.i0.1;have aj:(ws.map D.int)[j.toNat]? =some (.int<|ws.getD j.toNat 0):=aJe O.len (by have:=O.j0.2;omega) O.j0.1
 by_cases k6:k<6
 ·have es:jF k i j n=.tup [.str<|nm k,.int i,.int j]:=by unfold jF;rw[if_pos k6]
  rw[es];refine aF<|jZ 3 nd rfl (Or.inl rfl) (cZ (n:=0) (pdv 1) bB rfl λ_ _=>rfl) ?_;refine aF (fH (cV (pdv 3) dL rfl rfl rfl<|uD k O.k10) (by simp;omega)<|cE ?_);refine aF<|jZ 4 nd rfl (Or.inl rfl) (mY (i:=i) (pdv 2) (cZ (n:=1) (pdv 1) bB rfl λ_ _=>rfl) O.i0.1 ai λ_ _=>rfl) ?_;refine aF (fH (aEQ rfl hB (λH=>hq H) (pdv 3) rfl rfl rfl) (by rw[aES k O.k10];simp;omega)<|cE ?_);refine aY<|bL (bM (ds:=[.str<|nm k,.int ((2^p.1.toNat:Nat):Int),.int<|ws.getD i.toNat 0,.int<|ws.getD j.toNat 0]) GA hr rfl (aC (pdv 3)<|aC (PEd.cast (bM (ds:=[cF p]) GC hr rfl (aC (pdv 0) aO) ⟨p,rfl,by omega,by omega,rfl⟩ trivial rfl)<|by rw[ec]) (aC (pdv 4)<|aC (mY (i:=j) (pdv 2) (cZ (n:=2) (pdv 1) bB rfl λ_ _=>rfl) O.j0.1 aj λ_ _=>rfl) aO)) ⟨k,_,_,_,rfl,k6,hm0,rfl⟩ trivial rfl) trivial ?_;unfold aLP newW;rw[if_neg<|by omega,if_neg<|by omega]
 ·by_cases k6':k=6
  ·subst k6';have es:jF 6 i j n=.tup [.str<|nm 6,.int i,.int n]:=rfl;rw[es];refine aF<|jZ 3 nd rfl (Or.inl rfl) (cZ (n:=0) (pdv 1) bB rfl λ_ _=>rfl) ?_;refine aF<|iT (cV (pdv 3) dL rfl rfl rfl<|uD 6 O.k10) rfl ?_;exact aY<|bL (cZ (n:=2) (pdv 1) bB rfl λ_ _=>rfl) trivial rfl
  ·have es:jF k i j n=.tup [.str<|nm k,.int i]:=by unfold jF;rw[if_neg k6,if_neg k6']
   rw[es];refine aF<|jZ 3 nd rfl (Or.inl rfl) (cZ (n:=0) (pdv 1) bB rfl λ_ _=>rfl) ?_;refine aF (fH (cV (pdv 3) dL rfl rfl rfl<|uD k O.k10) (by simp;omega)<|cE ?_);refine aF<|jZ 4 nd rfl (Or.inl rfl) (mY (i:=i) (pdv 2) (cZ (n:=1) (pdv 1) bB rfl λ_ _=>rfl) O.i0.1 ai λ_ _=>rfl) ?_;refine aF<|iT (aEQ rfl hB (λH=>hq H) (pdv 3) rfl rfl rfl) (by rw[aES k O.k10];simp;omega) ?_;refine aY<|bL (bM (ds:=[.str<|nm k,.int ((2^p.1.toNat:Nat):Int),.int<|ws.getD i.toNat 0]) GI hr rfl (aC (pdv 3) (aC (PEd.cast (bM (ds:=[cF p]) GC hr rfl (aC (pdv 0) aO) ⟨p,rfl,by omega,by omega,rfl⟩ trivial rfl)<|by rw[ec])<|aC (pdv 4) aO)) ⟨k,_,_,rfl,by omega,O.k10,hm0,rfl⟩ trivial rfl) trivial ?_;unfold aLP newW;rw[if_neg k6',if_pos<|by omega]
def aCx:List D->R->Prop:=λds r=>∃k i j n,ds=[jF k i j n]/\r=.val (.int i)
theorem aKc(k:Nat)(i j n:Int):∃es,jF k i j n=.tup (.str (nm k)::.int i::es):=by
 unfold jF
 split
 ·exact⟨_,rfl⟩
 ·split
  ·exact⟨_,rfl⟩
  ·exact⟨_,rfl⟩
theorem aCY(F:Fun K "written_box" "written_box" aCt f fd)(hm:mg "written_box"=some (.ref f)):bH P w K mg base "written_box" 1 1 aCx:=by
 have nd:(["step"]:List Str).Nodup:=by decide+kernel
 refine cN (N:=["step"]) (ps:=["step"]) (k:=0) F hm λcdv A outer s H E hr ds r hl c=> ?_
 obtain⟨k,i,j,n,rfl,rfl⟩:=c;obtain⟨es,e⟩:=aKc k i j n;rw[e];exact aY<|bL (cZ (n:=1) (pdv 0) bB rfl λ_ _=>rfl) trivial rfl
noncomputable def aQs(p:Int×Int)(k:Nat)(i j n:Int)(ws:List Int):List Int:=ws.set i.toNat<|aLP p k i j n ws
def aFa:List D->R->Prop:=λds r=>∃p k i j n ws,aOM p k i j n ws/\ds=[cF p,jF k i j n,bF ws]/\r=.val (bF<|aQs p k i j n ws)
theorem uG(ws:List Int){i:Nat}(h:i<ws.length):DL.cutD (ws.map D.int) none (some (i:Int))=(ws.take i).map D.int:=by
 unfold DL.cutD;have h1:HT.sIx (ws.map D.int).length 0 none=0:=rfl
 have h2:HT.sIx (ws.map D.int).length (ws.map D.int).length (some (i:Int))=i:=by rw[HT.sIx_nat,aA];omega
 rw[h1,h2,lW];simp
theorem rS(ws:List Int){i:Nat}(h:i<ws.length):DL.cutD (ws.map D.int) (some<|(i:Int)+1) none=(ws.drop<|i+1).map D.int:=by
 unfold DL.cutD;have e:((i:Int)+1)=((i+1:Nat):Int):=by push_cast;rfl
 have h1:HT.sIx (ws.map D.int).length 0 (some<|(i:Int)+1)=i+1:=by rw[e,HT.sIx_nat,aA];omega
 have h2:HT.sIx (ws.map D.int).length (ws.map D.int).length none=ws.length:=by rw[HT.sIx_none,aA]
 rw[h1,h2,kH,fG<|by rw[iC,aA];omega]
theorem aGd(F:Fun K "step_on" "step_on" aDX f fd)(hm:mg "step_on"=some (.ref f))(GB:bH P w K mg base "written_box" 1 1 aCx)(GN:bH P w K mg base "new_word" 2 3 aCi):bH P w K mg base "step_on" 3 3 aFa:=by
 have nd:(["size","step","filling","box"]:List Str).Nodup:=by decide+kernel
 refine cN (N:=["size","step","filling","box"]) (ps:=["size","step","filling"]) (k:=2) F hm λcdv A outer s H E hr ds r hl c=> ?_
 obtain⟨p,k,i,j,n,ws,O,rfl,rfl⟩:=c;obtain⟨h1,h2,h3,h4,h5⟩:=xQ p O.sz;have hr1:=hr.mono (show 1<=2 by decide);have li:i.toNat<ws.length:=by have:=O.i0;rw[O.len];omega
 have ei:i=((i.toNat:Nat):Int):=by have:=O.i0;omega
 have l6:ws.length<=6:=by rw[O.len];omega
 refine aF<|iB (d:=.int ((i.toNat:Nat):Int)) 3 (PEd.cast (bM (ds:=[jF k i j n]) GB hr1 rfl (aC (pdv 1) aO) ⟨k,i,j,n,rfl,rfl⟩ trivial rfl)<|by rw[<-ei]) ?_;refine aY<|bL (PEd.cast (lO (lO (aBB (ol:=none) (oh:=some ((i.toNat:Nat):Int)) (pdv 2) trivial (pdv 3) ?_) (fY (ds:=[.int<|aLP p k i j n ws]) (aC (bM (ds:=[cF p,jF k i j n,bF ws]) GN hr rfl (aC (pdv 0) (aC (pdv 1)<|aC (pdv 2) aO)) ⟨p,k,i,j,n,ws,O,rfl,rfl⟩ trivial rfl) aO)<|aG rfl) ?_) (aBB (ol:=some<|((i.toNat:Nat):Int)+1) (oh:=none) (pdv 2) (gE gZ (pdv 3) bB) trivial ?_) ?_) ?_) trivial rfl
 ·rw[HT.sIx_nat,aA];omega
 ·rw[uG ws li];simp only[aA,cO,bU,iJ];omega
 ·have e:(((i.toNat:Nat):Int)+1)=((i.toNat+1:Nat):Int):=by push_cast;rfl
  rw[e,HT.sIx_nat,aA];omega
 ·rw[uG ws li,rS ws li];simp only[aQ,aA,cO,iC,bU,iJ];omega
 ·rw[uG ws li,rS ws li];unfold bF aQs;rw[uK,if_pos li];simp
theorem aNr{p:Int×Int}{q:SQ}{ws:List Int}(O:pQ p q)(G:Fil p ws):aOM p q.1 q.2.1 q.2.2.1 q.2.2.2 ws:=⟨O.sz,O.k10,O.i0,O.j0,O.n0,G.len,G.wd⟩
abbrev nl5:List Str:=["size","step"]
theorem aHo(F:Fun K "numbers_of_step" "numbers_of_step" aOJ f fd)(ztuple:mg "tuple"=none)(hm:mg "numbers_of_step"=some (.ref f))(GN:bH P w K mg base "number_of" 2 2 aQM)(GS:bH P w K mg base "step_on" 3 3 aFa)(GF:bH P w K mg base "fillings" 2 1 aDv):bH P w K mg base "numbers_of_step" 4 2 aQw:=by
 have nd:nl5.Nodup:=by decide+kernel
 have nd2:(["filling","size","step"]:List Str).Nodup:=by decide+kernel
 refine cN (N:=nl5) (ps:=nl5) (k:=3) F hm λcdv A outer s H E hr ds r hl c=> ?_
 obtain⟨p,q,hp,O,rfl,rfl⟩:=c;have hr2:=hr.mono (show 2<=3 by decide);have f9:(bT p).length<=64:=kA hp;obtain⟨h1,h2,h3,h4,h5⟩:=xQ p hp
 have ec:(((bT p).map bF).filter λ_=>true).map (λd=>D.int ((oI p (onQ p q<|nK d):Nat):Int))=bJ (hV p q):=by
  rw[cU.mpr λ_ _=>rfl];unfold bJ hV;rw[aR,aR];refine bQ λg _=> ?_
  show D.int ((oI p (onQ p q (nK<|bF g)):Nat):Int)=_;rw[lG];rfl
 refine aY<|bL (oD rfl ztuple (PEd.bor<|PEd.val (PEd.cast (iS (ds:=(bT p).map bF) (N:=["filling","size","step"]) (M:=nl5) (cap:=[none,some 0,some 1]) (sc:=bI aOJ) (Tb:=λd=>[.val d,.val<|cF p,.val<|sqD q]) (λ_=>true) (λd=>D.int ((oI p (onQ p q<|nK d):Nat):Int)) (gH (PEd.val<|bM (ds:=[cF p]) GF hr2 rfl (aC (pdv 0) aO) ⟨p,hp,rfl,rfl⟩ trivial rfl)) (by rw[aA];omega) rfl (by decide+kernel) rfl (by decide+kernel) rfl (λcl C fp s H d hd=>dY 0<|pgn 0) (λd hd=>⟨.inl rfl,.inr rfl,.inr rfl,trivial⟩) (λcl C fp s H d hd=>.inl ⟨rfl,rfl⟩) λcl C2 fp s H d hd _=> ?_)<|by rw[ec]))) trivial rfl;obtain⟨g,hg,rfl⟩:=xF hd;rw[lG];have G:=lN hp hg;have e:=(yN hp<|aAM O G).1;exact bM (ds:=[cF p,bF<|onQ p q g]) GN hr2 rfl (aC (pdv 1)<|aC (bM (ds:=[cF p,sqD q,bF g]) GS hr rfl (aC (pdv 1) (aC (pdv 2)<|aC (pdv 0) aO)) ⟨p,_,_,_,_,g,aNr O G,rfl,rfl⟩ trivial rfl) aO) ⟨p,_,rfl,by omega,by omega,by rw[e]⟩ trivial rfl
abbrev nl6:List Str:=["size","stock"]
theorem aCZ(F:Fun K "moves_of" "moves_of" aDG f fd)(hm:mg "moves_of"=some (.ref f))(GN:bH P w K mg base "numbers_of_step" 4 2 aQw):bH P w K mg base "moves_of" 5 2 aDQ:=by
 have nd:nl6.Nodup:=by decide+kernel
 have nd2:(["step","price","size"]:List Str).Nodup:=by decide+kernel
 refine cN (N:=nl6) (ps:=nl6) (k:=4) F hm λcdv A outer s H E hr ds r hl c=> ?_
 obtain⟨p,L,hp,S,dn,rfl,rfl⟩:=c;have l8:=S.le
 have ec:((L.map skD).filter λ_=>true).map (λd=>mvD p<|wL L d)=L.map (mvD p):=by
  rw[cU.mpr λ_ _=>rfl,aR];refine bQ λs hs=> ?_
  show mvD p (wL L<|skD s)=_;rw[xY dn hs]
 refine aY<|bL (PEd.cast (iS (ds:=L.map skD) (N:=["step","price","size"]) (M:=nl6) (cap:=[none,none,some 0]) (sc:=bI aDG) (Tb:=λd=>[.val<|sqD (wL L d).1,.val<|.int (wL L d).2,.val<|cF p]) (λ_=>true) (λd=>mvD p<|wL L d) (gH<|pdv 1) (by rw[aA];omega) rfl (by decide+kernel) rfl (by decide+kernel) rfl (λcl C fp s H d hd=> ?_) (λd hd=>⟨.inl rfl,.inl rfl,.inr rfl,trivial⟩) (λcl C fp s H d hd=>.inl ⟨rfl,rfl⟩) λcl C2 fp s H d hd _=> ?_)<|by rw[ec]) trivial rfl
 ·obtain⟨z,hz,rfl⟩:=aE.mp hd;rw[xY dn hz];exact kB (ds:=[sqD z.1,.int z.2]) (js:=[0,1]) rfl (dQ (pgn 0)<|dQ (pgn 1) jX) rfl rfl
 ·obtain⟨z,hz,rfl⟩:=aE.mp hd;rw[xY dn hz];exact fY (ds:=[.int z.2,.tup (bJ<|hV p z.1)]) (aC (pdv 1)<|aC (bM (ds:=[cF p,sqD z.1]) GN hr rfl (aC (pdv 2)<|aC (pdv 0) aO) ⟨p,z.1,hp,(S.st z hz).1,rfl,rfl⟩ trivial rfl) aO)<|aG rfl
abbrev nl7:List Str:=["one","other"]
theorem aFq(F:Fun K "numbers_behind" "numbers_behind" aJE f fd)(ztuple:mg "tuple"=none)(hm:mg "numbers_behind"=some (.ref f)):bH P w K mg base "numbers_behind" 1 2 aGJ:=by
 have nd:nl7.Nodup:=by decide+kernel
 have nd2:(["number","other"]:List Str).Nodup:=by decide+kernel
 refine cN (N:=nl7) (ps:=nl7) (k:=0) F hm λcdv A outer s H E hr ds r hl c=> ?_
 obtain⟨one,other,h1,h2,rfl,rfl⟩:=c
 have ec:((bJ one).filter λ_=>true).map (λd=>match d with | .int i=>D.int ((other.getD i.toNat 0:Nat):Int)|_=>.non)=bJ (gR other one):=by rw[cU.mpr λ_ _=>rfl];unfold bJ gR;rw[aR,aR];rfl
 refine aY<|bL (oD rfl ztuple (PEd.bor<|PEd.val (PEd.cast (iS (ds:=bJ one) (N:=["number","other"]) (M:=nl7) (cap:=[none,some 1]) (sc:=bI aJE) (Tb:=λd=>[.val d,.val (.tup<|bJ other)]) (λ_=>true) (λd=>match d with | .int i=>D.int ((other.getD i.toNat 0:Nat):Int)|_=>.non) (lZ<|pdv 0) (by rw[nR];omega) rfl (by decide+kernel) rfl (by decide+kernel) rfl (λcl C fp s H d hd=>dY 0<|pgn 0) (λd hd=>⟨.inl rfl,.inr rfl,trivial⟩) (λcl C fp s H d hd=>.inl ⟨rfl,rfl⟩) λcl C2 fp s H d hd _=> ?_)<|by rw[ec]))) trivial rfl;obtain⟨i,hi,rfl⟩:=aE.mp hd;exact cZ (n:=i) (pdv 1) (pdv 0) (aNC<|h2 i hi) λ_ _=>rfl
abbrev nl8:List Str:=["waiting","moves","bound","rank","row","numbers","place","move","price","longer"]
theorem aHx(F:Fun K "put_longer_rows" "put_longer_rows" aOP f fd)(zenumerate:mg "enumerate"=none)(hm:mg "put_longer_rows"=some (.ref f))(GB:bH P w K mg base "numbers_behind" 1 2 aGJ):vN P w K (wtL P w K) mg base "put_longer_rows" 2 6 aQH:=by
 have nd:nl8.Nodup:=by decide+kernel
 refine aLx (Z:=wtL P w K) (N:=nl8) (ps:=["waiting","moves","bound","rank","row","numbers"]) (k:=1) F ⟨rfl,rfl,rfl,nd,rfl,by decide+kernel,by decide+kernel⟩ hm (λ_ _ _ _ _ _ us hl=>match us,hl with | [_,_,_,_,_,_],_=>rfl) (λcdv A outer s H E B hB hr a ds post hl c=> ?_)<|aHN P w K;obtain⟨p,L,b,r,row,nb,hp,L9,hnb,r9,ndT,hT,rfl,rfl⟩:=c;have hu:(A.deeper<|Af "put_longer_rows" (bI aOP) s.heap.objs.size f cdv).units+4<AQ:=by have:=hr.un;omega
 have f9:(bT p).length<=64:=kA hp;refine aY<|gO (ds:=uS (L.map<|mvD p)) (λt sd=>∃a':Wt,a'.l=a.l/\a'.T=lgQ p L b r row nb t a.T/\sd=[wtS P w K a',.val<|.lst (L.map<|mvD p),.val<|.int b,.val<|.tup [.int r.1,.int r.2],.val (.tup<|bJ row),.val (.tup<|bJ nb),.un,.un,.un,.un]) (aCn rfl zenumerate<|pdv 1) ⟨_,Le.refl _,a,rfl,rfl,rfl⟩ (λt d sdt hd ht=> ?_) λsdn hn=> ?_
 ·obtain⟨x,hx,rfl⟩:=uJ hd;obtain⟨a',el,eT,rfl⟩:=ht
  have tl:t<L.length:=by have:=(aK.mp hx).1;simpa using this
  have ex:x=mvD p (L.getD t AM):=by rw[bA,eM tl] at hx;rw[<-cA.inj hx];simp[bX,tl]
  subst ex;have es:lgQ p L b r row nb (t+1) a.T=if r.1+(L.getD t AM).2<=b then lC (lgQ p L b r row nb t a.T) (r.1+(L.getD t AM).2,r.2+1) (nP (row++[t],gR (hV p (L.getD t AM).1) nb)) else lgQ p L b r row nb t a.T:=rfl
  have ndt:=aGM (p:=p) (L:=L) (b:=b) (r:=r) (row:=row) (nb:=nb) ndT t;have tt:=aIt (p:=p) (L:=L) (b:=b) (r:=r) (row:=row) (nb:=nb) (T:=a.T) t;rw[<-eT] at es ndt tt;obtain⟨pl0,pl1⟩:=hnb;generalize L.getD t AM=m at es;refine⟨[wtS P w K a',.val<|.lst (L.map<|mvD p),.val<|.int b,.val<|.tup [.int r.1,.int r.2],.val (.tup<|bJ row),.val (.tup<|bJ nb),.val<|.int (t:Int),.val<|mvD p m,.un,.un],kB (js:=[6,7]) rfl (dQ (pgn 6)<|dQ (pgn 7) jX) rfl rfl, ?_⟩;refine aF<|iB (d:=.int<|r.1+m.2) 8 (gE gZ (cZ (n:=0) (d:=.int r.1) (pdv 3) bB rfl λ_ _=>rfl)<|cZ (n:=0) (d:=.int m.2) (pdv 7) bB rfl λ_ _=>rfl) ?_;refine aY<|gG (k:=decide<|r.1+m.2<=b) (nH aDu (pdv 8) (pdv 2)<|iI _) (λq=> ?_) λq=>cE ?_
  ·rw[if_pos<|of_decide_eq_true q] at es;have e1:bJ row++[.int (t:Int)]=bJ (row++[t]):=by unfold bJ;rw[aJ];rfl
   refine aF<|iB (d:=p2D<|nP (row++[t],gR (hV p m.1) nb)) 9 (PEd.cast (fY (ds:=[.tup (bJ<|row++[t]),.tup (bJ<|gR (hV p m.1) nb)]) (aC (PEd.cast (lO (d1:=bJ row) (d2:=[.int (t:Int)]) (pdv 4) (fY (ds:=[.int (t:Int)]) (aC (pdv 6) aO)<|aG rfl)<|by unfold bJ;rw[aA];show _+1<=1000;omega)<|by rw[e1])<|aC (bM (ds:=[.tup<|bJ nb,.tup (bJ<|hV p m.1)]) (r:=.val<|.tup (bJ<|gR (hV p m.1) nb)) GB hr rfl (aC (pdv 5)<|aC (cZ (n:=1) (d:=.tup (bJ<|hV p m.1)) (pdv 7) bB rfl λ_ _=>rfl) aO) ⟨nb,hV p m.1,by omega,λi hi=>by rw[aAT];exact pl1 i hi,rfl,rfl⟩ trivial rfl) aO)<|aG rfl)<|by rw[aOL]) ?_;generalize nP (row++[t],gR (hV p m.1) nb)=y at es;refine aY<|aFu (k:=rkK (r.1+m.2,r.2+1)) (ks:=wtK a'.T) (ls:=a'.ls) (dss:=wtD a'.T) (d:=p2D y) 0 (by show(A.deeper _).units+1<AQ;omega) rfl (pv 0) (PEd.cast (fY (ds:=[.int<|r.1+m.2,.int<|r.2+1]) (aC (pdv 8)<|aC (gE gZ (cZ (n:=1) (d:=.int r.2) (pdv 3) bB rfl λ_ _=>rfl) bB) aO)<|aG rfl) rfl) (λz=>kR 9 rfl<|pv 9) (by have:=aKV a'.T;unfold wtD;rw[aA];omega) (λds hd=>by have:=aKe ds hd;omega) (λn ds hk hd=> ?_) λhk a9=> ?_
   ·obtain⟨k1,k2⟩:=yL y ndt hk hd;refine⟨[wtS P w K ⟨a'.l,a'.ls,lC a'.T (r.1+m.2,r.2+1) y⟩,.val<|.lst (L.map<|mvD p),.val<|.int b,.val<|.tup [.int r.1,.int r.2],.val (.tup<|bJ row),.val (.tup<|bJ nb),.un,.un,.un,.un],⟨.inr ?_,.inr rfl,.inr rfl,.inr rfl,.inr rfl,.inr rfl,.inl rfl,.inl rfl,.inl rfl,.inl rfl,trivial⟩,⟨a'.l,a'.ls,lC a'.T (r.1+m.2,r.2+1) y⟩,el,es.symm,rfl⟩;unfold wtS;rw[k1,k2];rfl
   ·have k1:=wC y hk;refine⟨[wtS P w K ⟨a'.l,a'.ls++[a9],lC a'.T (r.1+m.2,r.2+1) y⟩,.val<|.lst (L.map<|mvD p),.val<|.int b,.val<|.tup [.int r.1,.int r.2],.val (.tup<|bJ row),.val (.tup<|bJ nb),.un,.un,.un,.un],⟨.inr ?_,.inr rfl,.inr rfl,.inr rfl,.inr rfl,.inr rfl,.inl rfl,.inl rfl,.inl rfl,.inl rfl,trivial⟩,⟨a'.l,a'.ls++[a9],lC a'.T (r.1+m.2,r.2+1) y⟩,el,es.symm,rfl⟩;unfold wtS;rw[k1];unfold wtK wtD;rw[aJ,aJ];rfl
  ·rw[if_neg<|of_decide_eq_false q] at es;exact⟨[wtS P w K a',.val<|.lst (L.map<|mvD p),.val<|.int b,.val<|.tup [.int r.1,.int r.2],.val (.tup<|bJ row),.val (.tup<|bJ nb),.un,.un,.un,.un],⟨.inr rfl,.inr rfl,.inr rfl,.inr rfl,.inr rfl,.inr rfl,.inl rfl,.inl rfl,.inl rfl,.inr rfl,trivial⟩,a',el,es.symm,rfl⟩
 ·obtain⟨a',el,eT,rfl⟩:=hn;refine⟨a',⟨el, ?_⟩,rfl⟩;rw[eT,qL,aA]
abbrev nl9:List Str:=["moves","bound","start","waiting","known","found","rank","ready","row","numbers"]
theorem aCW(F:Fun K "found_rows" "found_rows" sFd f fd)(zlen:mg "len"=none)(zmin:mg "min"=none)(zlist:mg "list"=none)(zsorted:mg "sorted"=none)(hmt:∃t,mg "MOST_TABLES"=some (.int 500 t))(hm:mg "found_rows"=some (.ref f))(GP:vN P w K (wtL P w K) mg base "put_longer_rows" 2 6 aQH):bH P w K mg base "found_rows" 3 3 aIz:=by
 obtain⟨tm,hmt⟩:=hmt;have nd:nl9.Nodup:=by decide+kernel
 refine cN (N:=nl9) (ps:=["moves","bound","start"]) (k:=2) F hm λcdv A outer s H E hr ds r hl c=> ?_
 obtain⟨p,L,b,U,hp,S0,FU,rfl,rfl⟩:=c;have hu8:(A.deeper<|Af "found_rows" (bI sFd) s.heap.objs.size f cdv).units+8<AQ:=by have:=hr.un;omega
 have hu4:(A.deeper<|Af "found_rows" (bI sFd) s.heap.objs.size f cdv).units+4<AQ:=by omega
 have hu2:(A.deeper<|Af "found_rows" (bI sFd) s.heap.objs.size f cdv).units+2<AQ:=by omega
 have hu1:(A.deeper<|Af "found_rows" (bI sFd) s.heap.objs.size f cdv).units+1<AQ:=by omega
 have hpr:=S0.pr;have l8:=S0.le;have u4:=FU.len;refine aF<|aGj 3 nd rfl (Or.inl rfl) λl3=> ?_;refine aJz (K:=∀ls T,(fd0 p b).T=T->PSd _ [.val<|.lst (L.map<|mvD p),.val<|.int b,.val<|.tup (bJ<|st0 p),wtS P w K ⟨l3,ls,T⟩,.un,.un,.un,.un,.un,.un] _ _) (λkey=>aF (gG (k:=decide<|0<=b) (nH aPc (pdv 1) bB<|iI _) (λq=> ?_) λq=>cE<|key [] [] (if_neg<|of_decide_eq_false q))) λls T e0=> ?_
 ·refine aY<|aHS (ds:=[p2D<|nP ([],st0 p)]) 3 hu1 rfl (pv 3) (hG (ds:=[p2D<|nP ([],st0 p)]) (aC (PEd.cast (fY (ds:=[.tup<|bJ [],.tup (bJ<|st0 p)]) (aC (fY (ds:=[]) aO<|aG rfl)<|aC (pdv 2) aO)<|aG rfl)<|by rw[aOL]) aO)<|aG rfl) (λz=>nomatch z) (aG rfl) λa=> ?_;exact key [a] [((0,0),[nP ([],st0 p)])] (if_pos<|of_decide_eq_true q)
 subst e0;refine aF<|wN (hkT P w) 4 nd rfl (Or.inl rfl) λl4=> ?_;refine aF<|tU (ds:=[]) 5 (hG (ds:=[]) aO<|aG rfl) λl5=> ?_;refine aF<|aFl (λm sd=>∃S dn r ls,Wk p L b dn r [] S/\U.length<dn.length+m/\mQ p L b m S=mQ p L b 401 (fd0 p b)/\sd=[.val<|.lst (L.map<|mvD p),.val<|.int b,.val<|.tup (bJ<|st0 p),wtS P w K ⟨l3,ls,S.T⟩,oG (hkT P w) K l4 (S.kn.map iD)<|S.kn.map λ_=>.bl true,.own l5<|S.fd.map fdD,.un,.un,.un,.un]) ⟨401,_,Le.refl _,fd0 p b,[],(0,0),ls,wk0 p L b,by simp;omega,rfl,rfl⟩ λm sdm hw=> ?_;obtain⟨S,dn,r,ls,W,hU,hR,rfl⟩:=hw;refine⟨decide<|(0:Int)<((wtK S.T).length:Int),nH aJH (aKU 3 rfl zlen rfl<|pv 3) bB<|iI _,λq=> ?_,λq=> ?_⟩
 ·have e:S.T=[]:=by have:=of_decide_eq_false q;unfold wtK at this;rw[aA] at this;exact fR (by omega)
  have e2:mQ p L b m S=S:=by
   cases m with
   |zero=>rfl
   |succ m=>exact if_pos e
  have e3:bkF p L b=S.fd:=by unfold bkF;rw[<-hR,e2]
  rw[e3];exact aY<|nY 5 rfl (pv 5) rfl
 ·have hne:S.T≠[]:=λz=>by rw[z] at q;cases q
  obtain⟨t,ht,hm,tnd,tne,W1,eT,W2⟩:=W.turn hpr hne;obtain⟨M,t',g1,g2,g3,g4,_⟩:=aND (X:=(nG CX0 P w K mg base nl9 "found_rows" (bI sFd) f cdv A outer s H E).nox) hu4 hne;have et:t=t':=(cA.inj<|g1.symm.trans ht).symm;subst et
  have tl:t.2.length<=10000:=by have:=W.few FU;have h1:=(iY t.2).length_eq;have h2:=W1.few FU;omega
  refine aF<|iB (d:=rkD t.1) 6 (aLj rfl zmin (PEd.bor<|PEd.val (aGY 3 rfl zlist rfl<|pv 3)) M g2) ?_;refine aF<|aHB (ps:=t.2) (rk:=rkP t.2) (k:=rkK t.1) 3 7 (gJ S.T) hu1 rfl zsorted rfl (pv 3) (PEd.cast (pdv 6) rfl) g3 g4 (aOj tnd tl hu8) nd rfl (Or.inl rfl) λl7 qs qp qw=>jY 7 rfl ?_;have eq:=aKH tnd qp qw;subst eq;have ek:wtK (S.T.eraseIdx<|gJ S.T)=(wtK S.T).eraseIdx (gJ S.T):=by unfold wtK;rw[dW,dW,aJ,lW,kH]
  have ed:wtD (S.T.eraseIdx<|gJ S.T)=(wtD S.T).eraseIdx (gJ S.T):=by unfold wtD;rw[dW,dW,aJ,lW,kH]
  have e5:odG P w K l3 ((wtK S.T).eraseIdx<|gJ S.T) (ls.eraseIdx<|gJ S.T) ((wtD S.T).eraseIdx<|gJ S.T)=wtS P w K ⟨l3,ls.eraseIdx<|gJ S.T,S.T.eraseIdx<|gJ S.T⟩:=by unfold wtS;rw[ek,ed]
  refine aBz (sd':=[.val<|.lst (L.map<|mvD p),.val<|.int b,.val<|.tup (bJ<|st0 p),wtS P w K ⟨l3,ls.eraseIdx<|gJ S.T,({S with T:=S.T.eraseIdx (gJ S.T)}:FdS).T⟩,oG (hkT P w) K l4 (({S with T:=S.T.eraseIdx (gJ S.T)}:FdS).kn.map iD)<|({S with T:=S.T.eraseIdx (gJ S.T)}:FdS).kn.map λ_=>.bl true,.own l5<|({S with T:=S.T.eraseIdx (gJ S.T)}:FdS).fd.map fdD,.val<|rkD t.1,.val (.lst<|(jP t.2).map p2D),.un,.un]) ⟨.inr rfl,.inr rfl,.inr rfl,.inr e5,.inr rfl,.inr rfl,.inr rfl,.inr rfl,.inr rfl,.inr rfl,trivial⟩ ?_
  have hR2:∃m',m=m'+1/\mQ p L b m' (fdT p L b S)=mQ p L b 401 (fd0 p b):=by
   cases m with
   |zero=>have:=W.few FU;omega
   |succ m'=>have e6:mQ p L b (m'+1) S=mQ p L b m' (fdT p L b S):=if_neg hne;exact⟨m',rfl,by rw[<-e6];exact hR⟩
  obtain⟨m',rfl,hR2⟩:=hR2
  have tpos:0<(jP t.2).length:=by rw[(iY t.2).length_eq];exact hX.mpr tne
  rw[eT] at hR2 W2;clear hR e5 ek ed g1 g2 g3 g4 M qp qw eT;generalize ({S with T:=S.T.eraseIdx (gJ S.T)}:FdS)=S1 at W1 W2 hR2;generalize ls.eraseIdx (gJ S.T)=ls1;refine aY<|gO (ds:=(jP t.2).map p2D) (λj sd=>∃S' ls,S'=fdP p L b t.1 S1 ((jP t.2).take j)/\sd=[.val<|.lst (L.map<|mvD p),.val<|.int b,.val<|.tup (bJ<|st0 p),wtS P w K ⟨l3,ls,S'.T⟩,oG (hkT P w) K l4 (S'.kn.map iD)<|S'.kn.map λ_=>.bl true,.own l5<|S'.fd.map fdD,.val<|rkD t.1,.val (.lst<|(jP t.2).map p2D),.un,.un]) (gH<|pdv 7) ⟨_,Le.refl _,S1,ls1,rfl,rfl⟩ (λj d sdj hd hj=> ?_) λsdn hn=> ?_
  ·obtain⟨S',ls2,eS,rfl⟩:=hj;obtain⟨y,hy,rfl,ey⟩:=lR hd;have jl:j<(jP t.2).length:=(aK.mp hy).1;have Wj:=W1.take hpr j (by omega);have Wj1:=W1.take hpr (j+1) (by omega);rw[ey,vY,<-eS] at Wj1;rw[<-eS] at Wj;have eS1:fdP p L b t.1 S1 ((jP t.2).take<|j+1)=fdI p L b t.1 S' (unP y):=by rw[ey,vY,<-eS]
   obtain⟨row,rfl,ro,er,rb⟩:=W1.rs y<|bD hy;rw[eS1];rw[aLW] at Wj1 ⊢;have rU:row.length<=300:=FU.rl _ (FU.all _ ro<|by rw[er] at rb;exact rb);have nbo:=(qU hp (λs hs=>(S0.st s hs).1) ro).1;have f1:=Wj.fdl FU;have f2:=Wj1.fdl FU;have tt:=Wj.tot FU;have okj:=Wj.ok
   have kl:S'.kn.length<=400:=by rw[okj.kn,aA];exact f1
   have dy:p2D (itP p L row)=.tup [.tup<|bJ row,.tup (bJ<|nrQ p L row)]:=aOL _;rw[dy];clear Wj Wj1 eS1 ey hy hd eS dy;refine⟨[.val<|.lst (L.map<|mvD p),.val<|.int b,.val<|.tup (bJ<|st0 p),wtS P w K ⟨l3,ls2,S'.T⟩,oG (hkT P w) K l4 (S'.kn.map iD)<|S'.kn.map λ_=>.bl true,.own l5<|S'.fd.map fdD,.val<|rkD t.1,.val (.lst<|(jP t.2).map p2D),.val (.tup<|bJ row),.val<|.tup (bJ<|nrQ p L row)],kB (ds:=[.tup<|bJ row,.tup (bJ<|nrQ p L row)]) (js:=[8,9]) rfl (dQ (pgn 8)<|dQ (pgn 9) jX) rfl rfl, ?_⟩
   have inj:decide (nrQ p L row∈S'.kn)=true↔iD (nrQ p L row)∈S'.kn.map iD:=by
    rw[decide_eq_true_iff]
    constructor
    ·exact λh=>aE.mpr ⟨_,h,rfl⟩
    ·intro h;obtain⟨e,e1,e2⟩:=aE.mp h;rw[<-tG e2];exact e1
   refine aJz (K:=∀S2 ls3,S2=fdI p L b t.1 S' (row,nrQ p L row)->PSd _ [.val<|.lst (L.map<|mvD p),.val<|.int b,.val<|.tup (bJ<|st0 p),wtS P w K ⟨l3,ls3,S2.T⟩,oG (hkT P w) K l4 (S2.kn.map iD)<|S2.kn.map λ_=>.bl true,.own l5<|S2.fd.map fdD,.val<|rkD t.1,.val (.lst<|(jP t.2).map p2D),.val (.tup<|bJ row),.val<|.tup (bJ<|nrQ p L row)] _ _) (λkey=>aF (gG (k:= !decide (nrQ p L row∈S'.kn)) (aHv (hk:=hkT P w) (k:=iD<|nrQ p L row) inj hu2 (PEd.cast (pdv 9)<|by rw[show(hkT P w).dat (iD<|nrQ p L row)=tD (iD<|nrQ p L row) from rfl,pU]) (aEd 4 rfl<|pv 4)) (λq=> ?_) λq=>cE<|key S' ls2 (if_pos<|by simpa using q).symm)) λS2 ls3 e2=> ?_
   ·have nk:nrQ p L row∉S'.kn:=by simpa using q
    refine aF<|vV (hk:=hkT P w) (k:=iD<|nrQ p L row) (d:=.bl true) 4 hu2 rfl (pv 4) pX (PEd.cast (pdv 9)<|by rw[show(hkT P w).dat (iD<|nrQ p L row)=tD (iD<|nrQ p L row) from rfl,pU]) (λz=>nk (of_decide_eq_true<|inj.mpr z)) (by rw[aA];omega) ?_;refine aF<|pD (d:=fdD (t.1.1,row,nrQ p L row)) 5 rfl (pv 5) (fY (ds:=[.int t.1.1,.tup<|bJ row,.tup (bJ<|nrQ p L row)]) (aC (cZ (n:=0) (d:=.int t.1.1) (pdv 6) bB rfl λ_ _=>rfl) (aC (pdv 8)<|aC (pdv 9) aO))<|aG rfl) (by rw[aA];omega) ?_;refine aY<|aFU (Z:=wtL P w K) (a:=⟨l3,ls2,S'.T⟩) (ds:=[.lst (L.map<|mvD p),.int b,.tup [.int t.1.1,.int t.1.2],.tup<|bJ row,.tup (bJ<|nrQ p L row)]) 3 rfl (pv 3) GP hr rfl (aC (pdv 0) (aC (pdv 1)<|aC (pdv 6) (aC (pdv 8)<|aC (pdv 9) aO))) ⟨p,L,b,t.1,row,nrQ p L row,hp,by omega,nbo,by omega,okj.nk,by show tot S'.T+_<=_;omega,rfl,rfl⟩ (λa' h=>h.1) rfl λa' h=> ?_;obtain⟨al,als,aT⟩:=a';obtain⟨h1,h2⟩:=h;have h1:al=l3:=h1;have h2:aT=lgQ p L b t.1 row (nrQ p L row) L.length S'.T:=h2;subst h1 h2;have k:=key ⟨lgQ p L b t.1 row (nrQ p L row) L.length S'.T,S'.kn++[nrQ p L row],S'.fd++[(t.1.1,row,nrQ p L row)]⟩ als (if_neg nk).symm;simp only[aJ,aZ,fD] at k;exact k
   ·rw[<-e2] at f2;refine aY (fH (k:=decide<|(500:Int)<(((S2.fd.map fdD).length:Nat):Int)) (nH aJH (mX rfl zlen (aLt 5 rfl<|pv 5)) (aGW (i:=500) rfl hmt ⟨tm,rfl⟩)<|iI _) (decide_eq_false<|by rw[aA];omega)<|cE ?_);exact⟨[.val<|.lst (L.map<|mvD p),.val<|.int b,.val<|.tup (bJ<|st0 p),wtS P w K ⟨l3,ls3,S2.T⟩,oG (hkT P w) K l4 (S2.kn.map iD)<|S2.kn.map λ_=>.bl true,.own l5<|S2.fd.map fdD,.val<|rkD t.1,.val (.lst<|(jP t.2).map p2D),.un,.un],⟨.inr rfl,.inr rfl,.inr rfl,.inr rfl,.inr rfl,.inr rfl,.inr rfl,.inr rfl,.inl rfl,.inl rfl,trivial⟩,S2,ls3,e2,rfl⟩
  ·obtain⟨S',ls3,eS,rfl⟩:=hn;rw[aA,eQ] at eS;subst eS;exact⟨m',[.val<|.lst (L.map<|mvD p),.val<|.int b,.val<|.tup (bJ<|st0 p),wtS P w K ⟨l3,ls3,(fdP p L b t.1 S1<|jP t.2).T⟩,oG (hkT P w) K l4 ((fdP p L b t.1 S1<|jP t.2).kn.map iD)<|(fdP p L b t.1 S1<|jP t.2).kn.map λ_=>.bl true,.own l5<|(fdP p L b t.1 S1<|jP t.2).fd.map fdD,.un,.un,.un,.un],jW _,⟨.inr rfl,.inr rfl,.inr rfl,.inr rfl,.inr rfl,.inr rfl,.inl rfl,.inl rfl,.inr rfl,.inr rfl,trivial⟩,fdP p L b t.1 S1<|jP t.2,dn++(jP t.2).map rwP,t.1,ls3,W2,by rw[aQ,aA];omega,hR2,rfl⟩
abbrev nl10:List Str:=["every","numbers"]
theorem aCK(F:Fun K "table_from" "table_from" aDK f fd)(ztuple:mg "tuple"=none)(hm:mg "table_from"=some (.ref f)):bH P w K mg base "table_from" 1 2 aDT:=by
 have nd:nl10.Nodup:=by decide+kernel
 have nd2:(["number","every"]:List Str).Nodup:=by decide+kernel
 refine cN (N:=nl10) (ps:=nl10) (k:=0) F hm λcdv A outer s H E hr ds r hl c=> ?_
 obtain⟨B,nb,h1,h2,rfl,rfl⟩:=c
 have ec:((bJ nb).filter λ_=>true).map (λd=>match d with | .int i=>bF (B.getD i.toNat [])|_=>.non)=(nb.map λi=>B.getD i []).map bF:=by rw[cU.mpr λ_ _=>rfl];unfold bJ;rw[aR,aR];rfl
 refine aY<|bL (oD rfl ztuple (PEd.bor<|PEd.val (PEd.cast (iS (ds:=bJ nb) (N:=["number","every"]) (M:=nl10) (cap:=[none,some 0]) (sc:=bI aDK) (Tb:=λd=>[.val d,.val (.lst<|B.map bF)]) (λ_=>true) (λd=>match d with | .int i=>bF (B.getD i.toNat [])|_=>.non) (lZ<|pdv 1) (by rw[nR];omega) rfl (by decide+kernel) rfl (by decide+kernel) rfl (λcl C fp s H d hd=>dY 0<|pgn 0) (λd hd=>⟨.inl rfl,.inr rfl,trivial⟩) (λcl C fp s H d hd=>.inl ⟨rfl,rfl⟩) λcl C2 fp s H d hd _=> ?_)<|by rw[ec]))) trivial rfl;obtain⟨i,hi,rfl⟩:=aE.mp hd;exact kX (n:=i) (PEd.bor<|pdv 1) (pdv 0) (tH<|h2 i hi) λ_ _=>rfl
abbrev nl11:List Str:=["size","stock","bound","every","found"]
theorem aFp(F:Fun K "book_of" "book_of" aJP f fd)(zlen:mg "len"=none)(zrange:mg "range"=none)(ztuple:mg "tuple"=none)(hm:mg "book_of"=some (.ref f))(GF:bH P w K mg base "fillings" 2 1 aDv)(GM:bH P w K mg base "moves_of" 5 2 aDQ)(GR:bH P w K mg base "found_rows" 3 3 aIz)(GT:bH P w K mg base "table_from" 1 2 aDT):bH P w K mg base "book_of" 6 3 aJJ:=by
 have nd:nl11.Nodup:=by decide+kernel
 have nd2:(["price","row","numbers","every"]:List Str).Nodup:=by decide+kernel
 refine cN (N:=nl11) (ps:=["size","stock","bound"]) (k:=5) F hm λcdv A outer s H E hr ds r hl c=> ?_
 obtain⟨p,L,b,U,hp,S,dn,FU,rfl,rfl⟩:=c;have hr1:=hr.mono (show 1<=5 by decide);have hr2:=hr.mono (show 2<=5 by decide);have hr3:=hr.mono (show 3<=5 by decide);have f9:(bT p).length<=64:=kA hp;have O:=aIR (p:=p) S.pr FU;have l4:=O.len;refine aF<|tU (ds:=(bT p).map bF) 3 (bM (ds:=[cF p]) GF hr2 rfl (aC (pdv 0) aO) ⟨p,hp,rfl,rfl⟩ trivial rfl) λl5=>jY 3 rfl ?_;refine aF<|tU (ds:=(bkF p L b).map fdD) 4 (bM (ds:=[.lst (L.map<|mvD p),.int b,.tup (bJ<|st0 p)]) GR hr3 rfl (aC (PEd.val<|bM (ds:=[cF p,.lst<|L.map skD]) GM hr rfl (aC (pdv 0)<|aC (pdv 1) aO) ⟨p,L,hp,S,dn,rfl,rfl⟩ trivial rfl) (aC (pdv 2)<|aC (uM (n:=(bT p).length) rfl ztuple rfl zrange (PEd.ic (mX rfl zlen (PEd.bor<|pdv 3))<|by rw[aA])<|by omega) aO)) ⟨p,L,b,U,hp,S,FU,rfl,rfl⟩ trivial rfl) λl4=>jY 4 rfl ?_
 have ec:(((bkF p L b).map fdD).filter λ_=>true).map (λd=>enD ((unE d).1,(unE d).2.1,jC p (unE d).2.2))=(bkQ p L b).map enD:=by
  rw[cU.mpr λ_ _=>rfl,aR];unfold bkQ;rw[aR];refine bQ λe _=> ?_
  show enD ((unE<|fdD e).1,(unE<|fdD e).2.1,jC p (unE<|fdD e).2.2)=_;rw[aJM];rfl
 refine aY<|bL (PEd.cast (iS (ds:=(bkF p L b).map fdD) (N:=["price","row","numbers","every"]) (M:=nl11) (cap:=[none,none,none,some 3]) (sc:=bI aJP) (Tb:=λd=>[.val<|.int (unE d).1,.val (.tup<|bJ (unE d).2.1),.val (.tup<|bJ (unE d).2.2),.val (.lst<|(bT p).map bF)]) (λ_=>true) (λd=>enD ((unE d).1,(unE d).2.1,jC p (unE d).2.2)) (gH<|pdv 4) (by rw[aA];omega) rfl (by decide+kernel) rfl (by decide+kernel) rfl (λcl C fp s H d hd=> ?_) (λd hd=>⟨.inl rfl,.inl rfl,.inl rfl,.inr rfl,trivial⟩) (λcl C fp s H d hd=>.inl ⟨rfl,rfl⟩) λcl C2 fp s H d hd _=> ?_)<|by rw[ec]) trivial rfl
 ·obtain⟨e,he,rfl⟩:=aE.mp hd;rw[aJM];exact kB (ds:=[.int e.1,.tup<|bJ e.2.1,.tup<|bJ e.2.2]) (js:=[0,1,2]) rfl (dQ (pgn 0) (dQ (pgn 1)<|dQ (pgn 2) jX)) rfl rfl
 ·obtain⟨e,he,rfl⟩:=aE.mp hd;rw[aJM];obtain⟨h1,h2,h3,h4,h5⟩:=O.ent e he;have nbo:=(qU hp (λs hs=>(S.st s hs).1) h1).1;rw[<-h4] at nbo;exact fY (ds:=[.int e.1,.tup<|bJ e.2.1,.tup<|(jC p e.2.2).map bF]) (aC (pdv 0) (aC (pdv 1)<|aC (bM (ds:=[.lst<|(bT p).map bF,.tup<|bJ e.2.2]) GT hr1 rfl (aC (pdv 3)<|aC (pdv 2) aO) ⟨bT p,e.2.2,by rw[nbo.1];omega,nbo.2,rfl,rfl⟩ trivial rfl) aO))<|aG rfl
abbrev nl12:List Str:=["moves","row","start","numbers","place"]
theorem aFN(F:Fun K "numbers_of_row" "numbers_of_row" aMG f fd)(hm:mg "numbers_of_row"=some (.ref f))(GB:bH P w K mg base "numbers_behind" 1 2 aGJ):bH P w K mg base "numbers_of_row" 2 3 aLZ:=by
 have nd:nl12.Nodup:=by decide+kernel
 refine cN (N:=nl12) (ps:=["moves","row","start"]) (k:=1) F hm λcdv A outer s H E hr ds r hl c=> ?_
 obtain⟨p,L,row,hp,S,R,rfl,rfl⟩:=c;have f9:(bT p).length<=64:=kA hp;have S':∀s∈L,pQ p s.1:=λs hs=>(S.st s hs).1
 refine aF<|iB (d:=.tup (bJ<|st0 p)) 3 (pdv 2) ?_;refine aF<|gO (ds:=bJ row) (λt sd=>sd=[.val<|.lst (L.map<|mvD p),.val (.tup<|bJ row),.val<|.tup (bJ<|st0 p),.val (.tup<|bJ (nrQ p L<|row.take t)),.un]) (lZ<|pdv 1) ⟨_,Le.refl _,rfl⟩ (λt d sdt hd ht=> ?_) λsdn hn=> ?_
 ·obtain⟨t2,rfl⟩:=aLw hd;subst ht;have km:row.getD t 0∈row:=getD_mem t2;have kl:=R _ km;have N0:=(qU hp S' (row:=row.take t) λj hj=>R j<|iK hj).1;refine⟨[.val<|.lst (L.map<|mvD p),.val (.tup<|bJ row),.val<|.tup (bJ<|st0 p),.val (.tup<|bJ (nrQ p L<|row.take t)),.val<|.int ((row.getD t 0:Nat):Int)],dY 4<|pgn 4, ?_⟩
  have et:nrQ p L (row.take<|t+1)=gR (hV p (L.getD (row.getD t 0) AM).1) (nrQ p L<|row.take t):=by rw[aAc 0 t2,vP]
  have em:∀k,k<L.length->(L.map<|mvD p)[k]? =some (mvD p<|L.getD k AM):=λk hk=>by
   have e:L[k]? =some (L.getD k AM):=by simp[bX,hk]
   rw[bA,e];rfl
  have em:=em _ kl;rw[et];generalize row.getD t 0=k at kl em;generalize nrQ p L (row.take t)=nb at N0;exact aY<|iB (d:=.tup (bJ<|gR (hV p (L.getD k AM).1) nb)) 3 (bM (ds:=[.tup<|bJ nb,.tup (bJ<|hV p (L.getD k AM).1)]) GB hr rfl (aC (pdv 3)<|aC (cZ (n:=1) (ds:=[.int (L.getD k AM).2,.tup (bJ<|hV p (L.getD k AM).1)]) (kX (n:=k) (PEd.bor<|pdv 0) (pdv 4) em λ_ _=>rfl) bB rfl λ_ _=>rfl) aO) ⟨nb,_,by rw[N0.1];omega,λi hi=>by rw[aAT];exact N0.2 i hi,rfl,rfl⟩ trivial rfl) ⟨[.val<|.lst (L.map<|mvD p),.val (.tup<|bJ row),.val<|.tup (bJ<|st0 p),.val<|.tup (bJ<|gR (hV p (L.getD k AM).1) nb),.un],⟨.inr rfl,.inr rfl,.inr rfl,.inr rfl,.inl rfl,trivial⟩,rfl⟩
 ·subst hn;rw[nR,eQ];exact aY<|bL (pdv 3) trivial rfl
abbrev nl13:List Str:=["stock","numbers"]
abbrev nl14:List Str:=["number","stock"]
theorem aCR(F:Fun K "is_row" "is_row" aBd f fd)(zall:mg "all"=none)(zlen:mg "len"=none)(hm:mg "is_row"=some (.ref f))(GW:bH P w K mg base "is_whole" 1 1 aIw):bH P w K mg base "is_row" 2 2 aCe:=by
 have nd:nl13.Nodup:=by decide+kernel
 refine cN (N:=nl13) (ps:=nl13) (k:=1) F hm λcdv A outer s H E hr ds r hl c=> ?_
 obtain⟨L,row,hl9,rfl,rfl⟩:=c;have nd2:nl14.Nodup:=by decide+kernel
 refine aY<|bL (PEd.cast (aLq (bs:=row.map λi=>decide (0<=i)&&decide (i<(L.length:Int))) rfl zall<|PEd.bor (PEd.val<|PEd.cast (iS (ds:=row.map D.int) (N:=nl14) (M:=nl13) (cap:=[none,some 0]) (sc:=bI aBd) (Tb:=λd=>[.val d,.val (.lst<|L.map skD)]) (λ_=>true) (λd=>match d with | .int i=>.bl (decide (0<=i)&&decide (i<(L.length:Int)))|_=>.non) (lZ<|pdv 1) (by rw[aA];omega) rfl (by decide+kernel) rfl (by decide+kernel) rfl (λcl C fp s H d _=>dY 0<|pgn 0) (λd _=>⟨.inl rfl,.inr rfl,trivial⟩) (λcl C fp s H d hd=>.inl ⟨rfl,rfl⟩) λcl C fp s H d hd _=> ?_) ?_)) ?_) trivial rfl
 ·obtain⟨t,ht,rfl⟩:=aE.mp hd;exact PEd.cast (oX (k:=true) (j:=decide (0<=t)&&decide (t<(L.length:Int))) (bM (ds:=[.int t]) (r:=.val<|.bl true) GW hr rfl (aC (pdv 0) aO) ⟨.int t,rfl,λ_=>⟨t,rfl⟩,rfl⟩ trivial rfl) λ_=>rB<|aFI (g:=λi j=>decide<|i<=j) (g':=λi j=>decide<|i<j) aDu zW bB (pdv 0) (PEd.ic (mX rfl zlen (PEd.bor<|pdv 1))<|by rw[aA])) (by rw[iM])
 ·rw[cU.mpr λ_ _=>rfl,aR,aR];rfl
 ·unfold yJ;rw[aQg];rfl
abbrev nl15:List Str:=["stock","row"]
theorem aHs(F:Fun K "price_of" "price_of" aDE f fd)(zsum:mg "sum"=none)(hm:mg "price_of"=some (.ref f)):bH P w K mg base "price_of" 1 2 aIV:=by
 have nd:nl15.Nodup:=by decide+kernel
 refine cN (N:=nl15) (ps:=nl15) (k:=0) F hm λcdv A outer s H E hr ds r hl c=> ?_
 obtain⟨L,row,hrow,hl2,rfl,rfl⟩:=c;have nd2:nl14.Nodup:=by decide+kernel
 have ec:((bJ row).filter λ_=>true).map (λd=>match d with | .int t=>D.int (L.getD t.toNat AM).2|_=>.non)=(zL L row).map D.int:=by
  rw[cU.mpr λ_ _=>rfl];unfold bJ zL;rw[aR,aR];refine bQ λt _=> ?_
  simp
 refine aY<|bL (aEw (ns:=zL L row) rfl zsum (PEd.bor<|PEd.val (PEd.cast (iS (ds:=bJ row) (N:=nl14) (M:=nl15) (cap:=[none,some 0]) (sc:=bI aDE) (Tb:=λd=>[.val d,.val (.lst<|L.map skD)]) (λ_=>true) (λd=>match d with | .int t=>D.int (L.getD t.toNat AM).2|_=>.non) (lZ<|pdv 1) (by rw[show(bJ row).length=row.length from aA _];omega) rfl (by decide+kernel) rfl (by decide+kernel) rfl (λcl C fp s H d _=>dY 0<|pgn 0) (λd _=>⟨.inl rfl,.inr rfl,trivial⟩) (λcl C fp s H d hd=>.inl ⟨rfl,rfl⟩) λcl C fp s H d hd _=> ?_)<|by rw[ec]))) trivial rfl;obtain⟨t,ht,rfl⟩:=aE.mp hd;have hn:=hrow t ht;exact cZ (n:=1) (ds:=[sqD (L.getD t AM).1,.int (L.getD t AM).2]) (kX (n:=t) (PEd.bor<|pdv 1) (pdv 0) (aIv hn) λ_ _=>rfl) bB rfl λ_ _=>rfl
abbrev nl16:List Str:=["stock","bound","price","row"]
theorem aGh(F:Fun K "is_priced_row" "is_priced_row" aMi f fd)(hm:mg "is_priced_row"=some (.ref f))(GR:bH P w K mg base "is_row" 2 2 aCe)(GP:bH P w K mg base "price_of" 1 2 aIV):bH P w K mg base "is_priced_row" 3 4 aEK:=by
 have nd:nl16.Nodup:=by decide+kernel
 refine cN (N:=nl16) (ps:=nl16) (k:=2) F hm λcdv A outer s H E hr ds r hl c=> ?_
 obtain⟨L,b,e,el,rfl,rfl⟩:=c;have hr1:=hr.mono (show 1<=2 by decide);refine aY<|bL (PEd.cast (oX (k:=yJ L.length e.2.1) (j:=decide (e.1=S45.prQ (prK L) (iQ e.2.1))&&decide (e.1<=b)) (bM (ds:=[.lst<|L.map skD,bF e.2.1]) GR hr rfl (aC (pdv 0)<|aC (pdv 3) aO) ⟨L,e.2.1,el,rfl,rfl⟩ trivial rfl) λhk=> ?_) rfl) trivial rfl;obtain⟨ro,_⟩:=xT hk;have ed:=aJG hk;have nl:(iQ e.2.1).length<=500:=by unfold iQ;rw[aA];omega
 exact oX (k:=decide<|e.1=S45.prQ (prK L) (iQ e.2.1)) (j:=decide<|e.1<=b) (aDV (pdv 2)<|PEd.ic (bM (ds:=[.lst<|L.map skD,.tup (bJ<|iQ e.2.1)]) GP hr1 rfl (aC (pdv 0)<|aC (PEd.cast (pdv 3)<|by rw[ed]) aO) ⟨L,iQ e.2.1,ro,nl,rfl,rfl⟩ trivial rfl) (aIN L<|iQ e.2.1)) λ_=>rB (aJF (g:=λi j=>decide<|i<=j) aDu (pdv 2) (pdv 1)<|iI _)
abbrev nl17:List Str:=["size","stock","moves","bound","book","every","prices","price","row","table","numbers"]
theorem aHW(F:Fun K "prices_by_numbers" "prices_by_numbers" aOq f fd)(zlen:mg "len"=none)(zrange:mg "range"=none)(ztuple:mg "tuple"=none)(hm:mg "prices_by_numbers"=some (.ref f))(GF:bH P w K mg base "fillings" 2 1 aDv)(GI:bH P w K mg base "is_priced_row" 3 4 aEK)(GR:bH P w K mg base "numbers_of_row" 2 3 aLZ)(GT:bH P w K mg base "table_from" 1 2 aDT):bH P w K mg base "prices_by_numbers" 4 5 (aIu P w K):=by
 have nd:nl17.Nodup:=by decide+kernel
 refine cN (N:=nl17) (ps:=["size","stock","moves","bound","book"]) (k:=3) F hm λcdv A outer s H E hr ds r hl c=> ?_
 obtain⟨p,L,b,Es,hp,S,Sh,rfl,rfl⟩:=c;have hr1:=hr.mono (show 1<=3 by decide);have hr2:=hr.mono (show 2<=3 by decide);have hu:(A.deeper<|Af "prices_by_numbers" (bI aOq) s.heap.objs.size f cdv).units+5<AQ:=by have:=hr.un;omega
 have hu2:(A.deeper<|Af "prices_by_numbers" (bI aOq) s.heap.objs.size f cdv).units+2<AQ:=by omega
 have f9:(bT p).length<=64:=kA hp;have l6:=Sh.len;have non:okE p L b Es=false->(.val .non:R)=.val (if okE p L b Es=true then pcD P w K p L (toB Es) else .non):=λh=>by rw[if_neg<|by rw[h];decide]
 refine aF<|tU (ds:=(bT p).map bF) 5 (bM (ds:=[cF p]) GF hr2 rfl (aC (pdv 0) aO) ⟨p,hp,rfl,rfl⟩ trivial rfl) λl5=>jY 5 rfl ?_;refine aF<|wN (hkT P w) 6 nd rfl (Or.inl rfl) λl6=> ?_;refine aF<|gO (ds:=Es.map e0D) (λt sd=>okE p L b (Es.take t)=true/\sd=[.val<|cF p,.val (.lst<|L.map skD),.val<|.lst (L.map<|mvD p),.val<|.int b,.val (.lst<|Es.map e0D),.val (.lst<|(bT p).map bF),oG (hkT P w) K l6 (ksB p L (toB<|Es.take t))<|(toB<|Es.take t).map λe=>.int e.1,.un,.un,.un,.un]) (gH<|pdv 4) ⟨_,Le.refl _,rfl,rfl⟩ (λt d sdt hd ht=> ?_) λsdn hn=> ?_
 ·obtain⟨ok,rfl⟩:=ht;obtain⟨e,he,rfl,et⟩:=lR hd;have em:=bD he;have el:=Sh.rl e em;have SH:ShE (Es.take t):=⟨cJ (by rw[cO];omega) Sh.len,λx hx=>Sh.rl x<|iK hx⟩;have tk:((toB<|Es.take t).map λe=>D.int e.1).length<=1000:=by unfold toB;rw[aA,aA,cO];omega
  have bad:okE p L b (Es.take<|t+1)=false->okE p L b Es=false:=aHy;rw[et] at bad ⊢;have sn:=xX p L b (Es.take t) e;have ps:prE L b e=true->_:=λh=>aJX hp S ok SH h
  have e1:ksB p L (toB<|Es.take t++[e])=ksB p L (toB<|Es.take t)++[iD (nrQ p L<|iQ e.2.1)]:=by rw[aCg];unfold ksB;rw[aJ];rfl
  have e2:((toB<|Es.take t++[e]).map λe=>D.int e.1)=((toB<|Es.take t).map λe=>D.int e.1)++[.int e.1]:=by rw[aCg,aJ];rfl
  generalize okE p L b (Es.take t++[e])=o2 at bad sn ps ⊢;rw[ok,iM] at sn;rw[e1,e2];have km:∀nb,decide (nb∈(toB<|Es.take t).map λe=>nrQ p L e.2.1)=true↔iD nb∈ksB p L (toB<|Es.take t):=λnb=>aLe
  generalize (toB<|Es.take t).map (λe=>nrQ p L e.2.1)=nl at ps km;generalize ksB p L (toB<|Es.take t)=ks at km;generalize (toB<|Es.take t).map (λe=>D.int e.1)=vs at tk;refine⟨[.val<|cF p,.val (.lst<|L.map skD),.val<|.lst (L.map<|mvD p),.val<|.int b,.val (.lst<|Es.map e0D),.val (.lst<|(bT p).map bF),oG (hkT P w) K l6 ks vs,.val<|.int e.1,.val<|bF e.2.1,.val (.tup<|e.2.2.map bF),.un],kB (ds:=[.int e.1,bF e.2.1,.tup<|e.2.2.map bF]) (js:=[7,8,9]) rfl (dQ (pgn 7) (dQ (pgn 8)<|dQ (pgn 9) jX)) rfl rfl, ?_⟩;refine aF<|gG (k:= !prE L b e) (mE (kP<|bM (ds:=[.lst<|L.map skD,.int b,.int e.1,bF e.2.1]) GI hr rfl (aC (pdv 1)<|aC (pdv 3) (aC (pdv 7)<|aC (pdv 8) aO)) ⟨L,b,e,el,rfl,rfl⟩ trivial rfl)) (λh=> ?_) λh=>cE ?_
  ·have h':prE L b e=false:=by simpa using h
   refine aY<|bL kQ trivial (non<|bad ?_);rw[sn];unfold vdE;rw[h'];rfl
  have h':prE L b e=true:=by simpa using h
  have ps:=ps h';have hk:=(eY.mp h').1;obtain⟨ro,_⟩:=xT hk;have ed:=aJG hk;obtain⟨n1,n2⟩:=qU hp (λs hs=>(S.st s hs).1) ro;refine aF<|iB (d:=.tup<|bJ (nrQ p L<|iQ e.2.1)) 10 (bM (ds:=[.lst (L.map<|mvD p),.tup (bJ<|iQ e.2.1),.tup (bJ<|st0 p)]) GR hr2 rfl (aC (pdv 2) (aC (PEd.cast (pdv 8)<|by rw[ed])<|aC (uM (n:=(bT p).length) rfl ztuple rfl zrange (PEd.ic (mX rfl zlen (PEd.bor<|pdv 5))<|by rw[aA])<|by omega) aO)) ⟨p,L,iQ e.2.1,hp,S,ro,rfl,rfl⟩ trivial rfl) ?_;have kd:∀ {X:Cx}{sd:List Slot}{g:Expr},PEd X sd g (.val (.tup<|bJ (nrQ p L<|iQ e.2.1)))->PEd X sd g (.val ((hkT P w).dat<|iD (nrQ p L<|iQ e.2.1))):=λh=>PEd.cast h (by rw[show(hkT P w).dat (iD (nrQ p L<|iQ e.2.1))=tD (iD (nrQ p L<|iQ e.2.1)) from rfl,pU])
  generalize nrQ p L (iQ e.2.1)=nb at n1 ps kd;refine aF<|gG (k:=decide (nb∈nl)||!decide (e.2.2=jC p nb)) (PWd.pt<|pP (k:=decide<|nb∈nl) (j:= !decide (e.2.2=jC p nb)) (aKS (hk:=hkT P w) (kk:=decide<|nb∈nl) (k:=iD nb) (km nb) hu2 (kd<|pdv 10) (aEd 6 rfl<|pv 6)) λ_=>rX (PTd.cast (aKR (ra:=.val (.tup<|e.2.2.map bF)) (rb:=.val (.tup<|(jC p nb).map bF)) (pdv 9) (bM (ds:=[.lst<|(bT p).map bF,.tup<|bJ nb]) GT hr1 rfl (aC (pdv 5)<|aC (pdv 10) aO) ⟨bT p,nb,by rw[n1.1];omega,n1.2,rfl,rfl⟩ trivial rfl) trivial trivial (.inl ⟨rfl,rfl⟩) (oB _) (oB _) (aGN hu<|by show jT (e.2.2.map bF)+1+1<=5;have:=nO e.2.2;omega))<|by show(!lD (e.2.2.map bF) ((jC p nb).map bF))=_;rw[aCl])) (λh=> ?_) λh=>cE ?_
  ·refine aY<|bL kQ trivial (non<|bad ?_);rw[ps,h];rfl
  ·rw[h] at ps
   have nk:iD nb∉ks:=λz=>by rw[(km nb).mpr z] at h;cases h
   exact aY<|vV (hk:=hkT P w) (k:=iD nb) (d:=.int e.1) 6 hu2 rfl (pv 6) (pdv 7) (kd<|pdv 10) nk tk ⟨[.val<|cF p,.val (.lst<|L.map skD),.val<|.lst (L.map<|mvD p),.val<|.int b,.val (.lst<|Es.map e0D),.val (.lst<|(bT p).map bF),oG (hkT P w) K l6 (ks++[iD nb])<|vs++[.int e.1],.un,.un,.un,.un],⟨.inr rfl,.inr rfl,.inr rfl,.inr rfl,.inr rfl,.inr rfl,.inr rfl,.inl rfl,.inl rfl,.inl rfl,.inl rfl,trivial⟩,ps,rfl⟩
 ·obtain⟨ok,rfl⟩:=hn;rw[aA,eQ] at ok ⊢;rw[if_pos ok];refine aBW 6 rfl ?_;exact aY<|bL (pdv 6) trivial rfl
abbrev nl18:List Str:=["prices","numbers","most"]
theorem aBp(F:Fun K "stands_there" "stands_there" aOI f fd)(hm:mg "stands_there"=some (.ref f)):bH P w K mg base "stands_there" 1 3 (aEj P w K):=by
 have nd:nl18.Nodup:=by decide+kernel
 refine cN (N:=nl18) (ps:=nl18) (k:=0) F hm λcdv A outer s H E hr ds r hl c=> ?_
 obtain⟨p,L,b,B,nb,m,hp,S,O,rfl,rfl⟩:=c;have hu:(A.deeper<|Af "stands_there" (bI aOI) s.heap.objs.size f cdv).units+2<AQ:=by have:=hr.un;omega
 by_cases q:iD nb∈ksB p L B
 ·obtain⟨e,he,en⟩:=aE.mp q;have en:=tG en;obtain⟨i,hi⟩:=gU he
  have sq:sZ p L B nb m=decide (e.1<=m):=by
   unfold sZ
   by_cases z:e.1<=m
   ·rw[decide_eq_true z];exact gL.mpr ⟨e,he,by rw[decide_eq_true en,decide_eq_true z];rfl⟩
   ·rw[decide_eq_false z];refine gY.mpr λh=> ?_
    obtain⟨x,x1,x2⟩:=gL.mp h;rw[bC] at x2;have:=O.inj hp S x1 he<|(of_decide_eq_true x2.1).trans en.symm;subst this;exact z<|of_decide_eq_true x2.2
  rw[sq];exact aY<|bL (PEd.cast (oX (k:=true) (j:=decide<|e.1<=m) (aIs (kk:=true) (hk:=hkT P w) (k:=iD nb) ⟨λ_=>q,λ_=>rfl⟩ hu (PEd.cast (pdv 1)<|by rw[show(hkT P w).dat (iD nb)=tD (iD nb) from rfl,pU]) (rZ<|pdv 0)) λ_=>rB (aJF (g:=λi j=>decide<|i<=j) aDu (aAX (hk:=hkT P w) (k:=iD nb) (n:=i) (d:=.int e.1) hu (rZ<|pdv 0) (PEd.cast (pdv 1)<|by rw[show(hkT P w).dat (iD nb)=tD (iD nb) from rfl,pU]) (by unfold ksB;rw[bA,hi,<-en];rfl) (by rw[bA,hi];rfl) λ_ _=>rfl) (pdv 2)<|iI _))<|by rw[iM]) trivial rfl
 ·have sq:sZ p L B nb m=false:=by
   unfold sZ;refine gY.mpr λh=> ?_
   obtain⟨x,x1,x2⟩:=gL.mp h;rw[bC] at x2;exact q<|aE.mpr ⟨x,x1,by rw[of_decide_eq_true x2.1]⟩
  rw[sq];exact aY<|bL (PEd.cast (oX (k:=false) (j:=false) (aIs (kk:=false) (hk:=hkT P w) (k:=iD nb) ⟨λz=>(by cases z),λz=>absurd z q⟩ hu (PEd.cast (pdv 1)<|by rw[show(hkT P w).dat (iD nb)=tD (iD nb) from rfl,pU]) (rZ<|pdv 0)) λh=>by cases h) rfl) trivial rfl
abbrev nl19:List Str:=["bound","book"]
theorem aDd(F:Fun K "has_start" "has_start" aBE f fd)(zany:mg "any"=none)(hm:mg "has_start"=some (.ref f)):bH P w K mg base "has_start" 1 2 aIW:=by
 have nd:nl19.Nodup:=by decide+kernel
 have nd2:(["price","row","table"]:List Str).Nodup:=by decide+kernel
 refine cN (N:=nl19) (ps:=nl19) (k:=0) F hm λcdv A outer s H E hr ds r hl c=> ?_
 obtain⟨p,L,b,B,O,hb,rfl,rfl⟩:=c;have hu:(A.deeper<|Af "has_start" (bI aBE) s.heap.objs.size f cdv).units+4<AQ:=by have:=hr.un;omega
 have ec:((B.map enD).filter λ_=>true).map (λd=>match d with | .tup [_,.tup rs,_]=>D.bl rs.isEmpty|_=>.bl false)=(B.map λe=>decide<|e.2.1=[]).map D.bl:=by
  rw[cU.mpr λ_ _=>rfl,aR,aR];refine bQ λe _=> ?_
  show D.bl (bJ e.2.1).isEmpty=D.bl (decide<|e.2.1=[]);cases e.2.1<;>rfl
 have ea:((B.map λe=>decide<|e.2.1=[]).any id)=B.any λe=>decide (e.2.1=[]):=by rw[List.any_map];rfl
 refine aY<|bL (PEd.cast (aPs (k:=decide<|b<0) (j:=(B.map λ(e:Bk)=>decide<|e.2.1=[]).any id) (aJF (g:=λi j=>decide<|i<j) zW (pdv 0) bB<|iI _) λ_=>rB<|aJR (bs:=B.map λ(e:Bk)=>decide<|e.2.1=[]) rfl zany (PEd.bor<|PEd.val (PEd.cast (iS (ds:=B.map enD) (N:=["price","row","table"]) (M:=nl19) (cap:=[none,none,none]) (sc:=bI aBE) (Tb:=λd=>match d with | .tup [a,r,t]=>[.val a,.val r,.val t] | _=>[.un,.un,.un]) (λ_=>true) (λd=>match d with | .tup [_,.tup rs,_]=>D.bl rs.isEmpty|_=>.bl false) (gH<|pdv 1) (by rw[aA];have:=O.len;omega) rfl (by decide+kernel) rfl (by decide+kernel) rfl (λcl C fp s H d hd=> ?_) (λd hd=> ?_) (λcl C fp s H d hd=>.inl ⟨rfl,rfl⟩) λcl C2 fp s H d hd _=> ?_)<|by rw[ec])))<|by rw[decide_eq_false<|by omega,aCA,ea]) trivial rfl
 ·obtain⟨e,_,rfl⟩:=aE.mp hd;exact kB (ds:=[.int e.1,.tup<|bJ e.2.1,.tup<|e.2.2.map bF]) (js:=[0,1,2]) rfl (dQ (pgn 0) (dQ (pgn 1)<|dQ (pgn 2) jX)) rfl rfl
 ·obtain⟨e,_,rfl⟩:=aE.mp hd;exact⟨.inl rfl,.inl rfl,.inl rfl,trivial⟩
 ·obtain⟨e,_,rfl⟩:=aE.mp hd;refine PEd.cast (aDN (ra:=.val (.tup<|bJ e.2.1)) (rb:=.val<|.tup []) (pdv 1) (fY (ds:=[]) aO<|aG rfl) trivial trivial (.inl ⟨rfl,rfl⟩) ?_ rfl ?_) ?_
  ·exact(xW e.2.1).1
  ·exact aGN hu (by show jT (bJ e.2.1)+1+1<=4;rw[(xW e.2.1).2];decide)
  ·show DL.R.val (.bl<|lD (bJ e.2.1) [])=DL.R.val (.bl (bJ e.2.1).isEmpty);cases e.2.1<;>rfl
abbrev nl20:List Str:=["moves","bound","prices","numbers","more","move","price"]
theorem aBi(F:Fun K "is_closed" "is_closed" aOR f fd)(hm:mg "is_closed"=some (.ref f))(GB:bH P w K mg base "numbers_behind" 1 2 aGJ)(GS:bH P w K mg base "stands_there" 1 3 (aEj P w K)):bH P w K mg base "is_closed" 2 3 (aEo P w K):=by
 have nd:nl20.Nodup:=by decide+kernel
 refine cN (N:=nl20) (ps:=["moves","bound","prices"]) (k:=1) F hm λcdv A outer s H E hr ds r hl c=> ?_
 obtain⟨p,L,b,B,hp,S,O,rfl,rfl⟩:=c;have hu:(A.deeper<|Af "is_closed" (bI aOR) s.heap.objs.size f cdv).units+2<AQ:=by have:=hr.un;omega
 have f9:(bT p).length<=64:=kA hp;obtain⟨good,hgood⟩:∃good:Bk->Nat->Bool,good=λe k=> !decide (e.1+prK L k<=b)||sZ p L B (gR (hV p (L.getD k AM).1)<|nrQ p L e.2.1) (e.1+prK L k):=⟨_,rfl⟩
 have ecl:aJv p L b B=B.all λe=>(bO L.length).all λk=>good e k:=by rw[hgood];rfl
 have kl:((ksB p L B).map (hkT P w).dat).length=B.length:=by unfold ksB;rw[aA,aA]
 refine aF<|gO (ds:=(ksB p L B).map (hkT P w).dat) (λt sd=>(∀i e,i<t->B[i]? =some e->∀k,k<L.length->good e k=true)/\sd=[.val<|.lst (L.map<|mvD p),.val<|.int b,.val<|pcD P w K p L B,.un,.un,.un,.un]) (aFH<|pdv 2) ⟨_,Le.refl _,λi e hi=>by omega,rfl⟩ (λt d sdt hd ht=> ?_) λsdn hn=> ?_
 ·obtain⟨hn,rfl⟩:=ht
  have tl:t<B.length:=by have:=(aK.mp hd).1;rw[kl] at this;exact this
  obtain⟨e,he⟩:∃e,B[t]? =some e:=⟨B[t],by simp[tl]⟩;have em:=bD he
  have ek:(ksB p L B)[t]? =some (iD<|nrQ p L e.2.1):=by unfold ksB;rw[bA,he];rfl
  have ed:d=.tup (bJ<|nrQ p L e.2.1):=by rw[bA,ek] at hd;rw[<-pU];exact(cA.inj hd).symm
  subst ed;obtain⟨n1,n2⟩:=O.nr hp S em;refine⟨[.val<|.lst (L.map<|mvD p),.val<|.int b,.val<|pcD P w K p L B,.val<|.tup (bJ<|nrQ p L e.2.1),.un,.un,.un],dY 3<|pgn 3, ?_⟩;refine aY<|gO (ds:=L.map<|mvD p) (λj sd=>(∀k,k<j->good e k=true)/\sd=[.val<|.lst (L.map<|mvD p),.val<|.int b,.val<|pcD P w K p L B,.val<|.tup (bJ<|nrQ p L e.2.1),.un,.un,.un]) (gH<|pdv 0) ⟨_,Le.refl _,λk hk=>by omega,rfl⟩ (λj d sdj hd hj=> ?_) λsdn hn2=> ?_
  ·obtain⟨hn2,rfl⟩:=hj
   have jl:j<L.length:=by have:=(aK.mp hd).1;rw[aA] at this;exact this
   have ej:L[j]? =some (L.getD j AM):=by simp[bX,jl]
   have ed:d=mvD p (L.getD j AM):=by rw[bA,ej] at hd;exact(cA.inj hd).symm
   subst ed;have gj:good e j=(!decide (e.1+(L.getD j AM).2<=b)||sZ p L B (gR (hV p (L.getD j AM).1)<|nrQ p L e.2.1) (e.1+(L.getD j AM).2)):=by rw[hgood];rfl
   generalize L.getD j AM=sk at gj;refine⟨[.val<|.lst (L.map<|mvD p),.val<|.int b,.val<|pcD P w K p L B,.val<|.tup (bJ<|nrQ p L e.2.1),.val<|.int sk.2,.val<|.tup (bJ<|hV p sk.1),.un],kB (ds:=[.int sk.2,.tup (bJ<|hV p sk.1)]) (js:=[4,5]) rfl (dQ (pgn 4)<|dQ (pgn 5) jX) rfl rfl, ?_⟩;refine aF<|iB (d:=.int<|e.1+sk.2) 6 (gE gZ (aAX (hk:=hkT P w) (k:=iD<|nrQ p L e.2.1) (n:=t) (d:=.int e.1) hu (rZ<|pdv 2) (PEd.cast (pdv 3)<|by rw[show(hkT P w).dat (iD<|nrQ p L e.2.1)=tD (iD<|nrQ p L e.2.1) from rfl,pU]) ek (by rw[bA,he];rfl) λ_ _=>rfl)<|pdv 4) ?_;refine aY<|gG (k:=decide (e.1+sk.2<=b)&&!sZ p L B (gR (hV p sk.1)<|nrQ p L e.2.1) (e.1+sk.2)) (PWd.pt (aBf (k:=decide<|e.1+sk.2<=b) (j:= !sZ p L B (gR (hV p sk.1)<|nrQ p L e.2.1) (e.1+sk.2)) (nH (g:=λi j=>decide<|i<=j) aDu (pdv 6) (pdv 1)<|iI _) λ_=>aBS<|mE (kP<|bM (ds:=[pcD P w K p L B,.tup<|bJ (gR (hV p sk.1)<|nrQ p L e.2.1),.int<|e.1+sk.2]) (r:=.val<|.bl (sZ p L B (gR (hV p sk.1)<|nrQ p L e.2.1)<|e.1+sk.2)) GS hr rfl (aC (pdv 2) (aC (bM (ds:=[.tup (bJ<|nrQ p L e.2.1),.tup (bJ<|hV p sk.1)]) GB hr rfl (aC (pdv 3)<|aC (pdv 5) aO) ⟨nrQ p L e.2.1,hV p sk.1,by rw[n1.1];omega,λi hi=>by rw[aAT];exact n1.2 i hi,rfl,rfl⟩ trivial rfl)<|aC (pdv 6) aO)) ⟨p,L,b,B,_,_,hp,S,O,rfl,rfl⟩ trivial rfl))) (λh=> ?_) λh=>cE ?_
   ·refine aY (bL pX trivial ?_)
    have:aJv p L b B=false:=by
     rw[ecl];refine gY.mpr λz=> ?_
     have:=bZ.mp (bZ.mp z e em) j<|bP.mpr jl;rw[gj] at this;rw[bC] at h;rw[h.1] at this;have h2:=h.2;simp at this h2;rw[this] at h2;cases h2
    show DL.R.val _=DL.R.val _;rw[this]
   ·refine⟨[.val<|.lst (L.map<|mvD p),.val<|.int b,.val<|pcD P w K p L B,.val<|.tup (bJ<|nrQ p L e.2.1),.un,.un,.un],⟨.inr rfl,.inr rfl,.inr rfl,.inr rfl,.inl rfl,.inl rfl,.inl rfl,trivial⟩,λk hk=> ?_,rfl⟩
    by_cases q:k<j
    ·exact hn2 k q
    ·have:k=j:=by omega
     subst this;rw[gj];cases z1:decide (e.1+sk.2<=b) with
     |false=>rfl
     |true=>
      rw[z1] at h;cases z2:sZ p L B (gR (hV p sk.1)<|nrQ p L e.2.1) (e.1+sk.2) with
      |true=>rfl
      |false=>rw[z2] at h;cases h
  ·obtain⟨hn2,rfl⟩:=hn2;rw[aA] at hn2;refine⟨[.val<|.lst (L.map<|mvD p),.val<|.int b,.val<|pcD P w K p L B,.un,.un,.un,.un],⟨.inr rfl,.inr rfl,.inr rfl,.inl rfl,.inr rfl,.inr rfl,.inr rfl,trivial⟩,λi x hi hx k hk=> ?_,rfl⟩
   by_cases q:i<t
   ·exact hn i x q hx k hk
   ·have:i=t:=by omega
    subst this;rw[he] at hx;cases hx;exact hn2 k hk
 ·obtain⟨hn,rfl⟩:=hn;rw[kl] at hn;refine aY (bL pX trivial ?_)
  have:aJv p L b B=true:=by
   rw[ecl];refine bZ.mpr λe he=>bZ.mpr λk hk=> ?_
   obtain⟨i,hi⟩:=gU he;exact hn i e (aK.mp hi).1 hi k<|bP.mp hk
  show DL.R.val _=DL.R.val _;rw[this]
abbrev nl21:List Str:=["size","stock","bound","book","moves","prices"]
theorem aDk(F:Fun K "holds" "holds" aDO f fd)(hm:mg "holds"=some (.ref f))(GM:bH P w K mg base "moves_of" 5 2 aDQ)(GP:bH P w K mg base "prices_by_numbers" 4 5 (aIu P w K))(GS:bH P w K mg base "has_start" 1 2 aIW)(GC:bH P w K mg base "is_closed" 2 3 (aEo P w K)):bH P w K mg base "holds" 6 4 aCh:=by
 have nd:nl21.Nodup:=by decide+kernel
 refine cN (N:=nl21) (ps:=["size","stock","bound","book"]) (k:=5) F hm λcdv A outer s H E hr ds r hl c=> ?_
 obtain⟨p,L,b,Es,hp,S,dn,Sh,h0,rfl,rfl⟩:=c;have hr1:=hr.mono (show 1<=5 by decide);have hr2:=hr.mono (show 2<=5 by decide);have hr4:=hr.mono (show 4<=5 by decide);refine aF<|tU (ds:=L.map<|mvD p) 4 (bM (ds:=[cF p,.lst<|L.map skD]) GM hr rfl (aC (pdv 0)<|aC (pdv 1) aO) ⟨p,L,hp,S,dn,rfl,rfl⟩ trivial rfl) λl4=>jY 4 rfl ?_;refine aF<|iB (d:=if okE p L b Es=true then pcD P w K p L (toB Es) else .non) 5 (bM (ds:=[cF p,.lst<|L.map skD,.lst (L.map<|mvD p),.int b,.lst<|Es.map e0D]) GP hr4 rfl (aC (pdv 0) (aC (pdv 1)<|aC (pdv 4) (aC (pdv 2)<|aC (pdv 3) aO))) ⟨p,L,b,Es,hp,S,Sh,rfl,rfl⟩ trivial rfl) ?_;unfold hoE;cases qo:okE p L b Es with
 |false=>rw[if_neg<|by decide];refine aF (gG (k:=true) (PWd.pt<|pP (k:=true) (j:=true) (PTd.cast (tL (d:=.non) (pdv 5) kQ) rfl) λh=>by cases h) (λ_=> ?_) λh=>by cases h);exact aY<|bL pX trivial rfl
 |true=>
  rw[if_pos rfl,iM];have O:=aDP qo Sh;have ed:=aMn qo;rw[<-ed];generalize toB Es=B at O;unfold aOD;have st:∀ {sd:List Slot}{p1 p2 p3 p4:Pos},sd[2]? =some (.val<|.int b)->sd[3]? =some (.val (.lst<|B.map enD))->PEd (nG CX0 P w K mg base nl21 "holds" (bI aDO) f cdv A outer s H E).nox sd (.Call (.Name "has_start" p1) [.Name "bound" p2, .Name "book" p3] [] p4) (.val<|.bl (B.any λe=>decide<|e.2.1=[])):=λq2 q3=>bM (ds:=[.int b,.lst<|B.map enD]) GS hr1 rfl (aC (kR 2 q2<|pv 2)<|aC (kR 3 q3<|pv 3) aO) ⟨p,L,b,B,O,h0,rfl,rfl⟩ trivial rfl
  cases q:B.any λe=>decide (e.2.1=[]) with
  |false=>rw[q] at st;refine aF (gG (k:=true) (PWd.pt (pP (k:=false) (j:=true) (PTd.cast (tL (d:=pcD P w K p L B) (pdv 5) kQ) rfl) λ_=>rX<|mE (k:=false) (kP<|st rfl rfl))) (λ_=> ?_) λh=>by cases h);exact aY<|bL pX trivial rfl
  |true=>rw[q] at st;refine aF (fH (k:=false) (PWd.pt (pP (k:=false) (j:=false) (PTd.cast (tL (d:=pcD P w K p L B) (pdv 5) kQ) rfl) λ_=>rX<|mE (k:=true) (kP<|st rfl rfl))) rfl<|cE ?_);exact aY<|bL (bM (ds:=[.lst (L.map<|mvD p),.int b,pcD P w K p L B]) GC hr2 rfl (aC (pdv 4) (aC (pdv 2)<|aC (pdv 5) aO)) ⟨p,L,b,B,hp,S,O,rfl,rfl⟩ trivial rfl) trivial rfl
abbrev nl22:List Str:=["size","wish","table","number","filling"]
abbrev nl23:List Str:=["size","wish","table"]
theorem aFz(F:Fun K "misses_at" "misses_at" aJC f fd)(zenumerate:mg "enumerate"=none)(hm:mg "misses_at"=some (.ref f))(GF:bH P w K mg base "fillings" 2 1 aDv):bH P w K mg base "misses_at" 3 3 aMB:=by
 have nd:nl22.Nodup:=by decide+kernel
 refine cN (N:=nl22) (ps:=nl23) (k:=2) F hm λcdv A outer s H E hr ds r hl c=> ?_
 obtain⟨p,w,T,hp,W,OT,rfl,rfl⟩:=c;have hu:(A.deeper<|Af "misses_at" (bI aJC) s.heap.objs.size f cdv).units+4<AQ:=by have:=hr.un;omega
 refine aF<|gO (ds:=uS<|(bT p).map bF) (λk sd=>(∀j,j<k->aLB w T j=false)/\sd=[.val<|cF p,.val (.lst<|w.map wsD),.val (.tup<|T.map bF),.un,.un]) (aCn rfl zenumerate (PEd.val<|bM (ds:=[cF p]) GF hr rfl (aC (pdv 0) aO) ⟨p,hp,rfl,rfl⟩ trivial rfl)) ⟨_,Le.refl _,λj hj=>by omega,rfl⟩ (λk d sdk hd hk=> ?_) λsdn hn=> ?_
 ·obtain⟨x,hx,rfl⟩:=uJ hd;obtain⟨hk2,rfl⟩:=pW hx;obtain⟨hn,rfl⟩:=hk;have kT:k<T.length:=by rw[OT.len];exact hk2
  have kW:k<w.length:=by rw[W.len];exact hk2
  refine⟨[.val<|cF p,.val (.lst<|w.map wsD),.val (.tup<|T.map bF),.val<|.int (k:Int),.val (bF<|(bT p).getD k [])],kB (js:=[3,4]) rfl (dQ (pgn 3)<|dQ (pgn 4) jX) rfl rfl, ?_⟩;refine aY<|gG (k:=aLB w T k) ?_ (λh=> ?_) λh=>cE ?_
  ·have ka:=aPB kW;unfold aLB;cases hq:w.getD k none with
   |none=>rw[hq] at ka;exact PWd.pt<|aBf (k:=false) (j:=false) (aCv (d:=.non) (kX (n:=k) (d:=.non) (PEd.bor<|pdv 1) (pdv 3) ka λ_ _=>rfl) kQ) λh=>by cases h
   |some L=>rw[hq] at ka;exact PWd.pt<|aBf (k:=true) (j:= !decide (T.getD k []∈L)) (aCv (d:=.lst<|L.map bF) (kX (n:=k) (d:=.lst<|L.map bF) (PEd.bor<|pdv 1) (pdv 3) ka λ_ _=>rfl) kQ) λ_=>aBS (PTd.cast (aCu (d:=bF<|T.getD k []) (ds:=L.map bF) (cZ (n:=k) (pdv 2) (pdv 3) (tH kT) λ_ _=>rfl) (kX (n:=k) (d:=.lst<|L.map bF) (PEd.bor<|pdv 1) (pdv 3) ka λ_ _=>rfl) (tN _) (oB L)<|by have:=nO L;show(A.deeper _).units+1+_<AQ;omega)<|by rw[aHR])
  ·refine aY<|bL (pdv 4) trivial ?_;show R.val _=R.val (aOt<|tM w (bT p) T);rw[show tM w (bT p) T=some ((bT p).getD k []) from aCD hk2 h hn];rfl
  ·refine⟨[.val<|cF p,.val (.lst<|w.map wsD),.val (.tup<|T.map bF),.un,.un],⟨.inr rfl,.inr rfl,.inr rfl,.inl rfl,.inl rfl,trivial⟩,λj hj=> ?_,rfl⟩
   by_cases q:j<k
   ·exact hn j q
   ·have:j=k:=by omega
    subst this;exact h
 ·obtain⟨hn,rfl⟩:=hn;rw[qL,aA] at hn;refine aY<|bL kQ trivial ?_;show R.val _=R.val (aOt<|tM w (bT p) T);rw[show tM w (bT p) T=none from wR hn];rfl
theorem aLm(F:Fun K "does_wish" "does_wish" aLY f fd)(hm:mg "does_wish"=some (.ref f))(GM:bH P w K mg base "misses_at" 3 3 aMB):bH P w K mg base "does_wish" 4 3 aMo:=by
 have nd:nl23.Nodup:=by decide+kernel
 refine cN (N:=nl23) (ps:=nl23) (k:=3) F hm λcdv A outer s H E hr ds r hl c=> ?_
 obtain⟨p,w,T,hp,W,OT,rfl,rfl⟩:=c;exact aY<|bL (PEd.cast (aIC (bM (ds:=[cF p,.lst<|w.map wsD,.tup<|T.map bF]) GM hr rfl (aC (pdv 0) (aC (pdv 1)<|aC (pdv 2) aO)) ⟨p,w,T,hp,W,OT,rfl,rfl⟩ trivial rfl) kQ)<|by rw[aKF]) trivial rfl
theorem aLl(F:Fun K "first_that_does" "first_that_does" sFt f fd)(hm:mg "first_that_does"=some (.ref f))(GD:bH P w K mg base "does_wish" 4 3 aMo):bH P w K mg base "first_that_does" 5 3 aJN:=by
 have nd:(["size","book","wish","entry"]:List Str).Nodup:=by decide+kernel
 refine cN (N:=["size","book","wish","entry"]) (ps:=["size","book","wish"]) (k:=4) F hm λcdv A outer s H E hr ds r hl c=> ?_
 obtain⟨p,L,b,B,w,hp,S,O,W,rfl,rfl⟩:=c;refine aF<|gO (ds:=B.map enD) (λt sd=>ftQ p w B=ftQ p w (B.drop t)/\sd=[.val<|cF p,.val (.lst<|B.map enD),.val (.lst<|w.map wsD),.un]) (gH<|pdv 1) ⟨_,Le.refl _,rfl,rfl⟩ (λt d sdt hd ht=> ?_) λsdn hn=> ?_
 ·obtain⟨q,rfl⟩:=ht;obtain⟨e,he,rfl,_⟩:=lR hd;obtain⟨tl,ee⟩:=aK.mp he;obtain⟨x1,x2,x3,x4,x5⟩:=O.ent e<|bD he;have tk:aGS p e.2.2:=by rw[x4];exact aKG hp S x1
  rw[dJ tl,ee] at q;refine⟨[.val<|cF p,.val (.lst<|B.map enD),.val (.lst<|w.map wsD),.val<|enD e],dY 3<|pgn 3, ?_⟩;refine aY<|gG (k:=doQ p w e.2.2) (kP<|bM (ds:=[cF p,.lst<|w.map wsD,.tup<|e.2.2.map bF]) GD hr rfl (aC (pdv 0) (aC (pdv 2)<|aC (cZ (n:=2) (ds:=[.int e.1,.tup<|bJ e.2.1,.tup<|e.2.2.map bF]) (pdv 3) bB rfl λ_ _=>rfl) aO)) ⟨p,w,e.2.2,hp,W,tk,rfl,rfl⟩ trivial rfl) (λh=> ?_) λh=>cE ?_
  ·have e3:ftQ p w B=some e:=by rw[q];exact List.find?_cons_of_pos (p:=λe:Bk=>doQ p w e.2.2) h
   rw[e3];exact aY<|bL (pdv 3) trivial rfl
  ·refine⟨[.val<|cF p,.val (.lst<|B.map enD),.val (.lst<|w.map wsD),.un],⟨.inr rfl,.inr rfl,.inr rfl,.inl rfl,trivial⟩, ?_,rfl⟩;rw[q];exact List.find?_cons_of_neg (p:=λe:Bk=>doQ p w e.2.2) (by rw[h];decide)
 ·obtain⟨q,rfl⟩:=hn;rw[aA,vU] at q;rw[q];exact aY<|bL kQ trivial rfl
noncomputable def aQK(m:Int):D->Bool
 |.tup (.int a::_)=>decide<|a<m
 |_=>false
abbrev nl24:List Str:=["size","stock","bound","wish","book","found"]
theorem aKZ(F:Fun K "least_row" "least_row" sLr f fd)(hm:mg "least_row"=some (.ref f))(GO:bH P w K mg base "book_of" 6 3 aJJ)(GT:bH P w K mg base "first_that_does" 5 3 aJN):bH P w K mg base "least_row" 7 4 aMm:=by
 have nd:nl24.Nodup:=by decide+kernel
 have nd2:(["entry","found"]:List Str).Nodup:=by decide+kernel
 refine cN (N:=nl24) (ps:=["size","stock","bound","wish"]) (k:=6) F hm λcdv A outer s H E hr ds r hl c=> ?_
 obtain⟨p,L,b,U,w,hp,S,dn,FU,W,rfl,rfl⟩:=c;have hr5:=hr.mono (show 5<=6 by decide);have O:=aBH hp S FU;refine aF<|tU (ds:=(bkQ p L b).map enD) 4 (bM (ds:=[cF p,.lst<|L.map skD,.int b]) GO hr rfl (aC (pdv 0) (aC (pdv 1)<|aC (pdv 2) aO)) ⟨p,L,b,U,hp,S,dn,FU,rfl,rfl⟩ trivial rfl) λl4=>jY 4 rfl ?_;generalize bkQ p L b=B at O;have bl:=O.len;refine aF<|iB (d:=oeD<|ftQ p w B) 5 (bM (ds:=[cF p,.lst<|B.map enD,.lst<|w.map wsD]) GT hr5 rfl (aC (pdv 0) (aC (pdv 4)<|aC (pdv 3) aO)) ⟨p,L,b,B,w,hp,S,O,W,rfl,rfl⟩ trivial rfl) ?_;unfold lrD;cases hq:ftQ p w B with
 |none=>refine aF<|iT (k:=true) (PTd.cast (tL (d:=.non) (pdv 5) kQ) rfl) rfl ?_;exact aY<|bL (fY (ds:=[.str "none",.lst<|B.map enD]) (aC dL<|aC (pdv 4) aO)<|aG rfl) trivial rfl
 |some e=>
  have ec:((B.map enD).filter<|aQK e.1).map id=(B.filter λx=>decide<|x.1<e.1).map enD:=by rw[iL,aLK];rfl
  refine aF (fH (k:=false) (PTd.cast (tL (d:=enD e) (pdv 5) kQ) rfl) rfl<|cE ?_);refine aY<|bL (fY (ds:=[.str "row",.tup<|bJ e.2.1,.lst<|(B.filter λx=>decide<|x.1<e.1).map enD]) (aC dL (aC (cZ (n:=1) (ds:=[.int e.1,.tup<|bJ e.2.1,.tup<|e.2.2.map bF]) (pdv 5) bB rfl λ_ _=>rfl)<|aC (PEd.val (PEd.cast (iS (ds:=B.map enD) (N:=["entry","found"]) (M:=nl24) (cap:=[none,some 5]) (sc:=bI sLr) (Tb:=λd=>[.val d,.val<|enD e]) (aQK e.1) id (gH<|pdv 4) (by rw[aA];omega) rfl (by decide+kernel) rfl (by decide+kernel) rfl (λcl C fp s H d hd=>dY 0<|pgn 0) (λd hd=>⟨.inl rfl,.inr rfl,trivial⟩) (λcl C fp s H d hd=>.inr ⟨_,rfl, ?_⟩) λcl C2 fp s H d hd _=>(pdv 0))<|by rw[ec])) aO))<|aG rfl) trivial rfl;obtain⟨x,_,rfl⟩:=aE.mp hd;exact nH (g:=λi j=>decide<|i<j) zW (cZ (n:=0) (ds:=[.int x.1,.tup<|bJ x.2.1,.tup<|x.2.2.map bF]) (d:=.int x.1) (pdv 0) bB rfl λ_ _=>rfl) (cZ (n:=0) (ds:=[.int e.1,.tup<|bJ e.2.1,.tup<|e.2.2.map bF]) (d:=.int e.1) (pdv 1) bB rfl λ_ _=>rfl)<|iI _
abbrev nl25:List Str:=["size","stock","bound","wish","book"]
theorem aFs(F:Fun K "shows_none" "shows_none" aME f fd)(hm:mg "shows_none"=some (.ref f))(GH:bH P w K mg base "holds" 6 4 aCh)(GT:bH P w K mg base "first_that_does" 5 3 aJN):bH P w K mg base "shows_none" 7 5 aEy:=by
 have nd:nl25.Nodup:=by decide+kernel
 refine cN (N:=nl25) (ps:=nl25) (k:=6) F hm λcdv A outer s H E hr ds r hl c=> ?_
 obtain⟨p,L,b,Es,ws,hp,S,dn,Sh,h0,W,hB,rfl,rfl⟩:=c;have hr5:=hr.mono (show 5<=6 by decide);refine aY<|bL (oX (k:=hoE p L b Es) (j:=(ftQ p ws<|toB Es).isNone) (bM (ds:=[cF p,.lst<|L.map skD,.int b,.lst<|Es.map e0D]) GH hr rfl (aC (pdv 0)<|aC (pdv 1) (aC (pdv 2)<|aC (pdv 4) aO)) ⟨p,L,b,Es,hp,S,dn,Sh,h0,rfl,rfl⟩ trivial rfl) λh=>rB (PEd.cast (aIC (d:=oeD (ftQ p ws<|toB Es)) (bM (ds:=[cF p,.lst<|Es.map e0D,.lst<|ws.map wsD]) GT hr5 rfl (aC (pdv 0) (aC (pdv 4)<|aC (pdv 3) aO)) ⟨p,L,b,toB Es,ws,hp,S,hB h,W, ?_,rfl⟩ trivial rfl) kQ)<|by rw[aOc])) trivial rfl;rw[aMn (eY.mp h).1]
abbrev nl26:List Str:=["_law_script","_law_k"]
theorem aFn(F:Fun K "_law_cell_at" "_law_cell_at" aEt f fd)(zlen:mg "len"=none)(hm:mg "_law_cell_at"=some (.ref f)):bH P w K mg base "_law_cell_at" 1 2 aGQ:=by
 have nd:nl26.Nodup:=by decide+kernel
 refine cN (N:=nl26) (ps:=nl26) (k:=0) F hm λcdv A outer s H E hr ds r hl c=> ?_
 obtain⟨ns,k,rfl,hk,rfl⟩:=c;refine aF<|gG (nH zW (pdv 1) (aKn rfl zlen<|pdv 0)<|iI _) (λh=> ?_) λh=>cE ?_
 ·have h':k<ns.length:=by simpa using h
  exact aY<|bL (aMM (z:=ns.getD k 0) (pdv 0) (pdv 1) (by simp[h']) λ_ _=>rfl) trivial rfl
 ·have h':¬ k<ns.length:=by simpa using h
  refine aY<|bL bB trivial ?_;show R.val (.int 0)=R.val (.int<|ns.getD k 0);simp[bX,h']
theorem aHh(F:Fun K "_law_mixed" "_law_mixed" aJd f fd)(hm:mg "_law_mixed"=some (.ref f)):bH P w K mg base "_law_mixed" 1 2 CMx:=by
 have nd:(["_law_cell","_law_k","_law_number"]:List Str).Nodup:=by decide+kernel
 refine cN (N:=["_law_cell","_law_k","_law_number"]) (ps:=["_law_cell","_law_k"]) (k:=0) F hm λcdv A outer s H E hr ds r hl c=> ?_
 obtain⟨c,k,rfl,hk,rfl⟩:=c;have kb:((k:Nat):Int).natAbs<2^250:=cB (by omega:_<=1000) (by decide);refine aF<|gG (vM (cT fM (pdv 0) bB<|by decide) bB) (λh=> ?_) λh=>cE ?_
 ·have h':c%2=0:=by simpa using h
  have e2:(2:Int)*2^((8:Int)*(k:Int)).toNat=((2^(8*k+1):Nat):Int):=by
   have:((8:Int)*(k:Int)).toNat=8*k:=by omega
   rw[this,pZ]
   push_cast
   exact aQR _ _
  have lg:(2^(8*k+1):Nat).log2<9000:=by rw[Nat.log2_two_pow];omega
  refine aY<|bL (cT nX (pdv 0) (PEd.ic (cT aJg bB (cT jL bB (pdv 1)<|jM (by decide) kb) ⟨by omega,by omega,by decide⟩) e2) ⟨pw0 _,lg⟩) trivial ?_;unfold mxS;rw[if_pos h']
 have h':¬ c%2=0:=by simpa using h
 have c1:=dM c (show(2147483647:Int)≠0 by decide);have c2:=cK c (show(0:Int)<2147483647 by decide);have big:∀z:Int,0<=z/\z<2147483647+69621*400+7919->z.natAbs<2^250:=λz hz=>cB (by omega:z.natAbs<=3000000000)<|by decide
 refine aF<|iB (d:=.int<|mx1 c k) 2 (cT fM (cT jL (gE gZ (gE gZ (cT fM (pdv 0) bB<|by decide) (cT jL bB (pdv 1)<|jM (by decide) kb)) bB) bB (jM (big _ ⟨by omega,by omega⟩)<|by decide)) bB<|by decide) ?_;have r1:0<=mx1 c k/\mx1 c k<2147483647:=⟨dM _<|by decide,cK _<|by decide⟩;refine aF<|iB (d:=.int<|mx2 c k) 2 (cT fM (cT jL (pdv 2) (pdv 2) (jM (big _ ⟨by omega,by omega⟩)<|big _ ⟨by omega,by omega⟩)) bB<|by decide) ?_;have r2:0<=mx2 c k/\mx2 c k<2147483629:=⟨dM _<|by decide,cK _<|by decide⟩;refine aY<|bL (cT fM (gE gZ (cT jL (pdv 2) (pdv 2) (jM (big _ ⟨by omega,by omega⟩)<|big _ ⟨by omega,by omega⟩)) (cT jL bB (pdv 1)<|jM (by decide) kb)) bB<|by decide) trivial ?_;unfold mxS;rw[if_neg h']
def xR:List D->R->Prop:=λds r=>∃p,p∈bR/\ds=[cF p]/\r=.own ((iW (2^p.1.toNat) p.2.toNat).map bF)
abbrev nl27:List Str:=["_law_size_here","_law_found","_law_box","_law_longer","_law_one"]
theorem aCX(F:Fun K "_law_fillings" "_law_fillings" aDA f fd)(zrange:mg "range"=none)(hm:mg "_law_fillings"=some (.ref f)):bH P w K mg base "_law_fillings" 1 1 xR:=by
 have nd:nl27.Nodup:=by decide+kernel
 refine cN (N:=nl27) (ps:=["_law_size_here"]) (k:=0) F hm λcdv A outer s H E hr ds r hl c=> ?_
 obtain⟨p,hp,rfl,rfl⟩:=c;obtain⟨h1,h2,h3,h4,h5⟩:=xQ p hp;have e2:p.2=((p.2.toNat:Nat):Int):=by omega
 have e1:p.1=((p.1.toNat:Nat):Int):=by omega
 have nd2:(["_law_word_here","_law_one"]:List Str).Nodup:=by decide+kernel
 have m64:2^p.1.toNat<=64:=by
  have:p.1.toNat<=6:=by omega
  exact cJ (mG (by decide) this)<|by decide
 refine aF<|tU (ds:=[bF []]) 1 (hG (ds:=[bF []]) (aC (fY (ds:=[]) aO<|bW _) aO)<|aG rfl) λl=> ?_;refine aF<|gO (ds:=jR 0 p.2.toNat) (λk sd=>∃l,sd=[.val<|cF p,.own l<|(iW (2^p.1.toNat) k).map bF,.un,.un,.un]) (lH (n:=p.2.toNat) rfl zrange (PEd.cast (cZ (n:=1) (d:=.int p.2) (pdv 0) bB rfl λ_ _=>rfl)<|by rw[<-e2])<|by omega) ⟨_,Le.refl _,l,rfl⟩ (λk d sdk hd hk=> ?_) λsdn hn=> ?_
 ·obtain⟨hk2,rfl⟩:=lJ hd;obtain⟨l2,rfl⟩:=hk
  have hsm:(iW (2^p.1.toNat) k).length*2^p.1.toNat<=900:=by rw[sG];exact zU p hp k hk2
  have lens:=xJ (2^p.1.toNat) k;have eL:iW (2^p.1.toNat) (k+1)=(iW (2^p.1.toNat) k).flatMap λs=>(bO<|2^p.1.toNat).map λ(w:Nat)=>s++[(w:Int)]:=rfl
  rw[eL];generalize iW (2^p.1.toNat) k=L at *;refine⟨_,dY 2<|pgn 2,jY 1 rfl ?_⟩;refine aF<|sW 3 nd rfl (Or.inl rfl) (hG (ds:=[]) aO<|bW _) λl3=> ?_;refine aF<|vJ (ds:=L.map bF) (λt=>[.val<|cF p,.val (.lst<|L.map bF),.un,.own l3<|((L.take t).flatMap λs=>(bO<|2^p.1.toNat).map λ(w:Nat)=>s++[(w:Int)]).map bF,.un]) (λt=>[.val<|cF p,.val (.lst<|L.map bF),.un,.own l3<|((L.take t).flatMap λs=>(bO<|2^p.1.toNat).map λ(w:Nat)=>s++[(w:Int)]).map bF,.val (bF<|L.getD t [])]) (gH<|pdv 1) ⟨.inr rfl,.inr rfl,.inl rfl,.inr rfl,.inr rfl,trivial⟩ (λt d hd=> ?_) (λt d hd=> ?_) ?_
  ·obtain⟨_,rfl⟩:=pW hd;exact dY 4<|pgn 4
  ·obtain⟨ht,rfl⟩:=pW hd;have hmem:L.getD t []∈L:=DL.getD_mem ht
   have et:L.take (t+1)=L.take t++[L.getD t []]:=by rw[fO];simp[bX,ht]
   have lk:(L.take t).length*2^p.1.toNat+2^p.1.toNat<=900:=by
    have h1:(L.take t).length+1<=L.length:=by rw[cO];omega
    have h2:=aGw (2^p.1.toNat) h1;rw[aGn] at h2;omega
   have ec:((jR 0<|2^p.1.toNat).filter λ_=>true).map (λd=>D.tup<|(L.getD t []).map D.int++[d])=((bO<|2^p.1.toNat).map λ(w:Nat)=>L.getD t []++[(w:Int)]).map bF:=by
    rw[cU.mpr λ_ _=>rfl];unfold jR;rw[aR,aR];refine bQ λw _=> ?_
    simp[bF]
   have lt:=lens _ hmem;refine aY<|yE (ds2:=((bO<|2^p.1.toNat).map λ(w:Nat)=>L.getD t []++[(w:Int)]).map bF) 3 rfl (pv 3) (PEd.val (PEd.cast (iS (N:=["_law_word_here","_law_one"]) (M:=nl27) (cap:=[none,some 4]) (sc:=bI aDA) (Tb:=λd=>[.val d,.val (bF<|L.getD t [])]) (λ_=>true) (λd=>D.tup<|(L.getD t []).map D.int++[d]) (lH (n:=2^p.1.toNat) rfl zrange (vL (k:=p.1.toNat) (PEd.ic (cZ (n:=0) (pdv 0) bB rfl λ_ _=>rfl) e1)<|by omega)<|by omega) (by rw[iU];omega) rfl (by decide+kernel) rfl (by decide+kernel) rfl (λcl C fp s H d _=>dY 0<|pgn 0) (λd _=>⟨.inl rfl,.inr rfl,trivial⟩) (λcl C fp s H d _=>.inl ⟨rfl,rfl⟩) λcl C fp s H d _ _=>lO (pdv 1) (fY (ds:=[d]) (aC (pdv 0) aO)<|aG rfl) ?_)<|by rw[ec])) ?_ ?_
   ·simp only[aA,bU,iJ];omega
   ·rw[aA,pV,aA,aA,fQ];omega
   ·refine⟨.inr rfl,.inr rfl,.inr rfl,.inr ?_,.inl rfl,trivial⟩;rw[et,aGv,aJ];simp
  ·rw[aA,eQ];refine aY<|aHd 1 3 rfl nd rfl (Or.inl rfl) (pv 3) ?_;exact⟨_,Le.refl _,l3,rfl⟩
 ·obtain⟨l2,rfl⟩:=hn;refine aY<|nY 1 rfl (pv 1) ?_;show R.own _=R.own _;rw[iU]
theorem aBe:∀k,k<10->decide (V.str (nm k)=V.str "down")=decide (k=9):=by decide+kernel
theorem aJb{ws:List Int}{i:Nat}(h:i<ws.length):(ws.map D.int)[i]? =some (.int<|ws.getD i 0):=by simp[bX,h]
abbrev nl28:List Str:=["_law_size_here","_law_step","_law_filling","_law_most","_law_name","_law_a","_law_b"]
abbrev nl29:List Str:=["_law_size_here","_law_step","_law_filling"]
theorem aLh(F:Fun K "_law_word" "_law_word" aIA f fd)(hm:mg "_law_word"=some (.ref f)):bH P w K mg base "_law_word" 1 3 aLV:=by
 have nd:nl28.Nodup:=by decide+kernel
 refine cN (N:=nl28) (ps:=nl29) (k:=0) F hm λcdv A outer s H E hr ds r hl c=> ?_
 obtain⟨p,⟨k,i,j,n⟩,ws,O,G,rfl,rfl⟩:=c;obtain⟨h1,h2,h3,h4,h5⟩:=xQ p O.sz;have e1:p.1=((p.1.toNat:Nat):Int):=by omega
 have m0:=pw0 p.1.toNat;have wl:=G.len;obtain⟨_,k10,i0,j0,n0⟩:=O;simp only at i0 j0 k10;have ai:(ws.map D.int)[i.toNat]? =some (.int<|ws.getD i.toNat 0):=aJb (by omega);have aj:(ws.map D.int)[j.toNat]? =some (.int<|ws.getD j.toNat 0):=aJb (by omega);show PSd _ (init _ [cF p,jF k i j n,bF ws]) _ {nx:=λ_=>R.val (.int<|newW k ((2^p.1.toNat:Nat):Int) (ws.getD i.toNat 0) (ws.getD j.toNat 0) n)=.val .non,rt:=λr'=>r'=.val (.int<|newW k ((2^p.1.toNat:Nat):Int) (ws.getD i.toNat 0) (ws.getD j.toNat 0) n)};have t_put:=uD k k10;have t_not:=aBI k k10;have t_up:=aGH k k10;have t_dn:=aBe k k10;refine aF<|iB (d:=.int ((2^p.1.toNat:Nat):Int)) 3 (vL (PEd.ic (cZ (n:=0) (d:=.int p.1) (pdv 0) bB rfl λ_ _=>rfl) e1)<|by omega) ?_
 by_cases k6:k<6
 ·have es:jF k i j n=.tup [.str<|nm k,.int i,.int j]:=by unfold jF;rw[if_pos k6]
  have en:newW k ((2^p.1.toNat:Nat):Int) (ws.getD i.toNat 0) (ws.getD j.toNat 0) n=aGF k ((2^p.1.toNat:Nat):Int) (ws.getD i.toNat 0) (ws.getD j.toNat 0):=by unfold newW;rw[if_neg<|by omega,if_neg<|by omega]
  rw[es,en];refine aF<|iB (d:=.str<|nm k) 4 (cZ (n:=0) (pdv 1) bB rfl λ_ _=>rfl) ?_;refine aF<|iB (d:=.int<|ws.getD i.toNat 0) 5 (mY (i:=i) (pdv 2) (cZ (n:=1) (pdv 1) bB rfl λ_ _=>rfl) i0.1 ai λ_ _=>rfl) ?_;refine aF (fH (cV (pdv 4) dL rfl rfl rfl t_put) (decide_eq_false<|by omega)<|cE ?_);refine aF (fH (cV (pdv 4) dL rfl rfl rfl t_not) (decide_eq_false<|by omega)<|cE ?_);refine aF (fH (cV (pdv 4) dL rfl rfl rfl t_up) (decide_eq_false<|by omega)<|cE ?_);refine aF (fH (cV (pdv 4) dL rfl rfl rfl t_dn) (decide_eq_false<|by omega)<|cE ?_);refine aF<|iB (d:=.int<|ws.getD j.toNat 0) 6 (mY (i:=j) (pdv 2) (cZ (n:=2) (pdv 1) bB rfl λ_ _=>rfl) j0.1 aj λ_ _=>rfl) ?_
  by_cases k0':k=0
  ·refine aF<|iT (cV (pdv 4) dL rfl rfl rfl<|aDW k k10) (decide_eq_true k0') (aY<|bL (gE aIY (pdv 5)<|pdv 6) trivial ?_);rw[k0'];rfl
  refine aF (fH (cV (pdv 4) dL rfl rfl rfl<|aDW k k10) (decide_eq_false k0')<|cE ?_)
  by_cases k1':k=1
  ·refine aF<|iT (cV (pdv 4) dL rfl rfl rfl<|aJO k k10) (decide_eq_true k1') (aY<|bL (gE aMz (pdv 5)<|pdv 6) trivial ?_);rw[k1'];rfl
  refine aF (fH (cV (pdv 4) dL rfl rfl rfl<|aJO k k10) (decide_eq_false k1')<|cE ?_)
  by_cases k2':k=2
  ·refine aF<|iT (cV (pdv 4) dL rfl rfl rfl<|aDz k k10) (decide_eq_true k2') (aY<|bL (gE aIy (pdv 5)<|pdv 6) trivial ?_);rw[k2'];rfl
  refine aF (fH (cV (pdv 4) dL rfl rfl rfl<|aDz k k10) (decide_eq_false k2')<|cE ?_)
  by_cases k3':k=3
  ·refine aF<|iT (cV (pdv 4) dL rfl rfl rfl<|aDI k k10) (decide_eq_true k3') (aY<|bL (cT fM (gE gZ (pdv 5)<|pdv 6) (pdv 3) m0) trivial ?_);rw[k3'];rfl
  refine aF (fH (cV (pdv 4) dL rfl rfl rfl<|aDI k k10) (decide_eq_false k3')<|cE ?_)
  by_cases k4':k=4
  ·refine aF<|iT (cV (pdv 4) dL rfl rfl rfl<|aAP k k10) (decide_eq_true k4') (aY<|bL (cT fM (gE pR (pdv 5)<|pdv 6) (pdv 3) m0) trivial ?_);rw[k4'];rfl
  refine aF (fH (cV (pdv 4) dL rfl rfl rfl<|aAP k k10) (decide_eq_false k4')<|cE ?_);have k5:k=5:=by omega
  refine aY<|bL (pdv 6) trivial ?_;rw[k5];rfl
 by_cases k6':k=6
 ·have es:jF k i j n=.tup [.str<|nm k,.int i,.int n]:=by unfold jF;rw[if_neg k6,if_pos k6']
  rw[es];refine aF<|iB (d:=.str<|nm k) 4 (cZ (n:=0) (pdv 1) bB rfl λ_ _=>rfl) ?_;refine aF<|iB (d:=.int<|ws.getD i.toNat 0) 5 (mY (i:=i) (pdv 2) (cZ (n:=1) (pdv 1) bB rfl λ_ _=>rfl) i0.1 ai λ_ _=>rfl) ?_;refine aF<|iT (cV (pdv 4) dL rfl rfl rfl t_put) (decide_eq_true k6') (aY<|bL (cZ (n:=2) (pdv 1) bB rfl λ_ _=>rfl) trivial ?_);rw[k6'];rfl
 have es:jF k i j n=.tup [.str<|nm k,.int i]:=by unfold jF;rw[if_neg k6,if_neg k6']
 rw[es];refine aF<|iB (d:=.str<|nm k) 4 (cZ (n:=0) (pdv 1) bB rfl λ_ _=>rfl) ?_;refine aF<|iB (d:=.int<|ws.getD i.toNat 0) 5 (mY (i:=i) (pdv 2) (cZ (n:=1) (pdv 1) bB rfl λ_ _=>rfl) i0.1 ai λ_ _=>rfl) ?_;refine aF (fH (cV (pdv 4) dL rfl rfl rfl t_put) (decide_eq_false<|by omega)<|cE ?_)
 by_cases k7:k=7
 ·refine aF<|iT (cV (pdv 4) dL rfl rfl rfl t_not) (decide_eq_true k7) (aY<|bL (gE pR (gE pR (pdv 3) bB)<|pdv 5) trivial ?_);rw[k7];rfl
 refine aF (fH (cV (pdv 4) dL rfl rfl rfl t_not) (decide_eq_false k7)<|cE ?_)
 by_cases k8:k=8
 ·refine aF<|iT (cV (pdv 4) dL rfl rfl rfl t_up) (decide_eq_true k8) (aY<|bL (PEd.ic (cT fM (cT aNI bB (pdv 5)<|.inl ⟨by decide,by decide⟩) (pdv 3) m0)<|by rw[aQR]) trivial ?_);rw[k8];rfl
 refine aF (fH (cV (pdv 4) dL rfl rfl rfl t_up) (decide_eq_false k8)<|cE ?_);have k9:k=9:=by omega
 refine aF<|iT (cV (pdv 4) dL rfl rfl rfl t_dn) (decide_eq_true k9) (aY<|bL (cT nX (pdv 5) bB ⟨by decide,by decide⟩) trivial ?_);rw[k9];rfl
theorem aHl(q:SQ):∃es,sqD q=.tup (.str (nm q.1)::.int q.2.1::es):=by
 show ∃es,jF _ _ _ _=_;unfold jF
 split
 ·exact⟨_,rfl⟩
 ·split
  ·exact⟨_,rfl⟩
  ·exact⟨_,rfl⟩
theorem aGT(F:Fun K "_law_after" "_law_after" aQl f fd)(hm:mg "_law_after"=some (.ref f))(GW:bH P w K mg base "_law_word" 1 3 aLV):bH P w K mg base "_law_after" 2 3 aIl:=by
 have nd:nl29.Nodup:=by decide+kernel
 refine cN (N:=nl29) (ps:=nl29) (k:=1) F hm λcdv A outer s H E hr ds r hl c=> ?_
 obtain⟨p,q,ws,O,G,rfl,rfl⟩:=c;obtain⟨h1,h2,h3,h4,h5⟩:=xQ p O.sz;have wl:=G.len;have i0:=O.i0;have li:q.2.1.toNat<ws.length:=by omega
 have ei:q.2.1=((q.2.1.toNat:Nat):Int):=by omega
 obtain⟨es0,es1⟩:=aHl q;have bx:∀ {X:Cx}{sd:List Slot}{a:Expr}{n0:Nat}{p1 p2:Pos},PEd X sd a (.val<|sqD q)->PEd X sd (.Subscript a (.Constant (.int 1) n0 p1) p2) (.val<|.int ((q.2.1.toNat:Nat):Int)):=λha=>PEd.ic (cZ (n:=1) (ds:=.str (nm q.1)::.int q.2.1::es0) (PEd.cast ha<|by rw[es1]) bB rfl λ_ _=>rfl) ei
 refine aY<|bL (PEd.cast (lO (lO (aBB (ol:=none) (oh:=some ((q.2.1.toNat:Nat):Int)) (pdv 2) trivial (bx<|pdv 1) ?_) (fY (ds:=[.int<|nwQ p q ws]) (aC (bM (ds:=[cF p,sqD q,bF ws]) GW hr rfl (aC (pdv 0) (aC (pdv 1)<|aC (pdv 2) aO)) ⟨p,q,ws,O,G,rfl,rfl⟩ trivial rfl) aO)<|aG rfl) ?_) (aBB (ol:=some<|((q.2.1.toNat:Nat):Int)+1) (oh:=none) (pdv 2) (gE gZ (bx<|pdv 1) bB) trivial ?_) ?_) ?_) trivial rfl
 ·rw[HT.sIx_nat,aA];omega
 ·rw[uG ws li];simp only[aA,cO,bU,iJ];omega
 ·have e:(((q.2.1.toNat:Nat):Int)+1)=((q.2.1.toNat+1:Nat):Int):=by push_cast;rfl
  rw[e,HT.sIx_nat,aA];omega
 ·rw[uG ws li,rS ws li];simp only[aQ,aA,cO,iC,bU,iJ];omega
 ·rw[uG ws li,rS ws li];unfold bF onQ;rw[uK,if_pos li];simp
theorem aKT:∀k:Nat,k<10->([.str "and",.str "or",.str "xor",.str "add",.str "take",.str "copy",.str "put",.str "not",.str "up",.str "down"]:List D)[k]? =some (.str<|nm k):=by
 intro k hk
 match k,hk with
 |0,_=>rfl
 |1,_=>rfl
 |2,_=>rfl
 |3,_=>rfl
 |4,_=>rfl
 |5,_=>rfl
 |6,_=>rfl
 |7,_=>rfl
 |8,_=>rfl
 |9,_=>rfl
abbrev nl30:List Str:=["_law_size_here","_law_cell","_law_name","_law_i"]
theorem aLc(F:Fun K "_law_drawn" "_law_drawn" aDU f fd)(hm:mg "_law_drawn"=some (.ref f))(GM:bH P w K mg base "_law_mixed" 1 2 CMx):bH P w K mg base "_law_drawn" 2 2 aMq:=by
 have nd:nl30.Nodup:=by decide+kernel
 refine cN (N:=nl30) (ps:=["_law_size_here","_law_cell"]) (k:=1) F hm λcdv A outer s H E hr ds r hl c=> ?_
 obtain⟨p,c,hp,rfl,rfl⟩:=c;obtain⟨h1,h2,h3,h4,h5⟩:=xQ p hp;have m0:=pw0 p.1.toNat;have e1:p.1=((p.1.toNat:Nat):Int):=by omega
 have p20:(0:Int)<p.2:=by omega
 have d0:=dM (mxS c 1) (show(10:Int)≠0 by decide);have d1:=cK (mxS c 1) (show(0:Int)<10 by decide);have mx:∀ {sd:List Slot}{j0:Nat}{p1 p2 p3 p4:Pos} (k:Nat),k<=400->sd[1]? =some (.val<|.int c)->PEd (nG CX0 P w K mg base nl30 "_law_drawn" (bI aDU) f cdv A outer s H E).nox sd (.Call (.Name "_law_mixed" p1) [.Name "_law_cell" p2, .Constant (.int (k:Int)) j0 p4] [] p3) (.val (.int<|mxS c k)):=λk hk hs=>bM (ds:=[.int c,.int (k:Int)]) GM hr rfl (aC (kR 1 hs<|pv 1)<|aC bB aO) ⟨c,k,rfl,hk,rfl⟩ trivial rfl
 refine aF<|iB (d:=.str<|nm (mxS c 1%10).toNat) 2 (qF (i:=mxS c 1%10) (ds:=[.str "and",.str "or",.str "xor",.str "add",.str "take",.str "copy",.str "put",.str "not",.str "up",.str "down"]) (PEd.bor<|PEd.val (hG (ds:=[.str "and",.str "or",.str "xor",.str "add",.str "take",.str "copy",.str "put",.str "not",.str "up",.str "down"]) ?_<|aG rfl)) (cT fM (mx 1 (by decide) rfl) bB<|by decide) d0 (aKT _<|by omega) λ_ _=>rfl) ?_
 ·show PAd _ _ _ [.val<|.str "and",.val<|.str "or",.val<|.str "xor",.val<|.str "add",.val<|.str "take",.val<|.str "copy",.val<|.str "put",.val<|.str "not",.val<|.str "up",.val<|.str "down"]
  repeat' (first|exact aO|refine aC dL ?_)
 refine aF<|iB (d:=.int<|mxS c 2%p.2) 3 (cT fM (mx 2 (by decide) rfl) (cZ (n:=1) (d:=.int p.2) (pdv 0) bB rfl λ_ _=>rfl) p20) ?_;have k10:(mxS c 1%10).toNat<10:=by omega
 show PSd _ _ _ {nx:=λ_=>R.val (jF (mxS c 1%10).toNat (mxS c 2%p.2) (mxS c 4%p.2)<|mxS c 3%((2^p.1.toNat:Nat):Int))=.val .non,rt:=λr'=>r'=.val (jF (mxS c 1%10).toNat (mxS c 2%p.2) (mxS c 4%p.2)<|mxS c 3%((2^p.1.toNat:Nat):Int))};generalize (mxS c 1%10).toNat=k at *
 by_cases k6:k=6
 ·refine aF<|iT (cV (pdv 2) dL rfl rfl rfl<|uD k k10) (decide_eq_true k6) (aY<|bL (fY (ds:=[.str<|nm k,.int<|mxS c 2%p.2,.int<|mxS c 3%((2^p.1.toNat:Nat):Int)]) (aC (pdv 2) (aC (pdv 3)<|aC (cT fM (mx 3 (by decide) rfl) (vL (PEd.ic (cZ (n:=0) (d:=.int p.1) (pdv 0) bB rfl λ_ _=>rfl) e1)<|by omega) m0) aO))<|aG rfl) trivial ?_);show R.val _=R.val _;unfold jF;rw[if_neg<|by omega,if_pos k6]
 refine aF (fH (cV (pdv 2) dL rfl rfl rfl<|uD k k10) (decide_eq_false k6)<|cE ?_)
 by_cases k7:7<=k
 ·refine aF (iT (PWd.pt<|pP (cV (pdv 2) dL rfl rfl rfl<|aBI k k10) λ_=>pP (cV (pdv 2) dL rfl rfl rfl<|aGH k k10) λ_=>rX (cV (pdv 2) dL rfl rfl rfl<|aBe k k10)) (by rcases(by omega:k=7\/k=8\/k=9) with h|h|h<;>simp[h]) (aY<|bL (fY (ds:=[.str<|nm k,.int<|mxS c 2%p.2]) (aC (pdv 2)<|aC (pdv 3) aO)<|aG rfl) trivial ?_))
  show R.val _=R.val _;unfold jF;rw[if_neg<|by omega,if_neg k6]
 refine aF (fH (PWd.pt (pP (cV (pdv 2) dL rfl rfl rfl (aBI k k10)) fun _=>pP (cV (pdv 2) dL rfl rfl rfl (aGH k k10)) fun _=>rX (cV (pdv 2) dL rfl rfl rfl (aBe k k10)))) (by
  have a1:¬ k=7:=by omega
  have a2:¬ k=8:=by omega
  have a3:¬ k=9:=by omega
  simp[a1,a2,a3]) (cE ?_))
 refine aY<|bL (fY (ds:=[.str<|nm k,.int<|mxS c 2%p.2,.int<|mxS c 4%p.2]) (aC (pdv 2) (aC (pdv 3)<|aC (cT fM (mx 4 (by decide) rfl) (cZ (n:=1) (d:=.int p.2) (pdv 0) bB rfl λ_ _=>rfl) p20) aO))<|aG rfl) trivial ?_;show R.val _=R.val _;unfold jF;rw[if_pos<|by omega]
abbrev nl31:List Str:=["_law_size_here","_law_kit_here","_law_moves_here","_law_step","_law_price_here","_law_made","_law_filling"]
theorem aGU(F:Fun K "_law_moves" "_law_moves" aOQ f fd)(hm:mg "_law_moves"=some (.ref f))(GF:bH P w K mg base "_law_fillings" 1 1 xR)(GA:bH P w K mg base "_law_after" 2 3 aIl):bH P w K mg base "_law_moves" 3 2 (aQk P w K):=by
 have nd:nl31.Nodup:=by decide+kernel
 refine cN (N:=nl31) (ps:=["_law_size_here","_law_kit_here"]) (k:=2) F hm λcdv A outer s H E hr ds r hl c=> ?_
 obtain⟨p,L,hp,S,rfl,rfl⟩:=c;have hr1:=hr.mono (show 1<=2 by decide);have hu:(A.deeper<|Af "_law_moves" (bI aOQ) s.heap.objs.size f cdv).units+2<AQ:=by have:=hr.un;omega
 have f9:(bT p).length<=64:=kA hp;have l8:=S.le;refine aF<|tU (ds:=[]) 2 (hG (ds:=[]) aO<|bW _) λl2=> ?_;refine aF<|gO (ds:=L.map skD) (λt sd=>sd=[.val<|cF p,.val (.lst<|L.map skD),.own l2 ((L.take t).map<|mgD P w K p),.un,.un,.un,.un]) (gH<|pdv 1) ⟨_,Le.refl _,rfl⟩ (λt d sdt hd ht=> ?_) λsdn hn=> ?_
 ·obtain⟨sk,hsk,rfl,et⟩:=lR hd;have O:=(S.st sk<|bD hsk).1;have tk:((L.take t).map<|mgD P w K p).length<=1000:=by rw[aA,cO];omega
  rw[et,aJ];subst ht;generalize (L.take t).map (mgD P w K p)=vs at tk;refine⟨[.val<|cF p,.val (.lst<|L.map skD),.own l2 vs,.val<|sqD sk.1,.val<|.int sk.2,.un,.un],kB (ds:=[sqD sk.1,.int sk.2]) (js:=[3,4]) rfl (dQ (pgn 3)<|dQ (pgn 4) jX) rfl rfl, ?_⟩;refine aF<|wN (hkT P w) 5 nd rfl (Or.inl rfl) λl5=> ?_;refine aF<|gO (ds:=(bT p).map bF) (λm sd=>sd=[.val<|cF p,.val (.lst<|L.map skD),.own l2 vs,.val<|sqD sk.1,.val<|.int sk.2,oG (hkT P w) K l5 (((bT p).take m).map inK) (((bT p).take m).map λws=>bF<|onQ p sk.1 ws),.un]) (gH (PEd.val<|bM (ds:=[cF p]) GF hr1 rfl (aC (pdv 0) aO) ⟨p,hp,rfl,rfl⟩ trivial rfl)) ⟨_,Le.refl _,rfl⟩ (λm d sdm hd hm=> ?_) λsdn hn=> ?_
  ·obtain⟨ws,hws,rfl,em⟩:=lR hd;have G:=lN hp (bD hws)
   have nk:inK ws∉((bT p).take m).map inK:=λz=>by obtain⟨y,y1,y2⟩:=aE.mp z;rw[aEh y2] at y1;exact aJT (aGa hp) hws y1
   have tk2:(((bT p).take m).map λws=>bF<|onQ p sk.1 ws).length<=1000:=by rw[aA,cO];omega
   rw[em,aJ,aJ];subst hm;generalize ((bT p).take m).map inK=ks at nk;generalize ((bT p).take m).map (λws=>bF<|onQ p sk.1 ws)=us at tk2;refine⟨[.val<|cF p,.val (.lst<|L.map skD),.own l2 vs,.val<|sqD sk.1,.val<|.int sk.2,oG (hkT P w) K l5 ks us,.val<|bF ws],dY 6<|pgn 6, ?_⟩;exact aY<|vV (hk:=hkT P w) (k:=inK ws) (d:=bF<|onQ p sk.1 ws) 5 hu rfl (pv 5) (bM (ds:=[cF p,sqD sk.1,bF ws]) GA hr rfl (aC (pdv 0) (aC (pdv 3)<|aC (pdv 6) aO)) ⟨p,sk.1,ws,O,G,rfl,rfl⟩ trivial rfl) (PEd.cast (pdv 6)<|by rw[show(hkT P w).dat (inK ws)=tD (inK ws) from rfl,aMA]) nk tk2 ⟨[.val<|cF p,.val (.lst<|L.map skD),.own l2 vs,.val<|sqD sk.1,.val<|.int sk.2,oG (hkT P w) K l5 (ks++[inK ws]) (us++[bF<|onQ p sk.1 ws]),.un],⟨.inr rfl,.inr rfl,.inr rfl,.inr rfl,.inr rfl,.inr rfl,.inl rfl,trivial⟩,rfl⟩
  ·subst hn;rw[aA,eQ];refine aBW 5 rfl ?_;refine aY<|pD (d:=mgD P w K p sk) 2 rfl (pv 2) (pdv 5) tk ?_;exact⟨[.val<|cF p,.val (.lst<|L.map skD),.own l2<|vs++[mgD P w K p sk],.un,.un,.un,.un],⟨.inr rfl,.inr rfl,.inr rfl,.inl rfl,.inl rfl,.inl rfl,.inl rfl,trivial⟩,rfl⟩
 ·subst hn;rw[aA,eQ];exact aY<|nY 2 rfl (pv 2) rfl
theorem aFt(F:Fun K "_law_size" "_law_size" aMb f fd)(hm:mg "_law_size"=some (.ref f))(GM:bH P w K mg base "_law_mixed" 1 2 CMx):bH P w K mg base "_law_size" 2 1 aMD:=by
 have nd:(["_law_cell"]:List Str).Nodup:=by decide+kernel
 refine cN (N:=["_law_cell"]) (ps:=["_law_cell"]) (k:=1) F hm λcdv A outer s H E hr ds r hl c=> ?_
 obtain⟨c,rfl,rfl⟩:=c;obtain⟨h1,h0⟩:=gX (mxS c 30) (n:=8)<|by decide
 have g:(sz8L.map cF)[(mxS c 30%8).toNat]? =some (cF<|sz8L.getD (mxS c 30%8).toNat (1,1)):=by have hl:(mxS c 30%8).toNat<sz8L.length:=h1;rw[bA];simp[bX,hl]
 refine aY<|bL (qF (i:=mxS c 30%8) (ds:=sz8L.map cF) (PEd.bor<|PEd.val (hG (ds:=sz8L.map cF) ?_<|aG rfl)) (cT fM (bM (ds:=[.int c,.int ((30:Nat):Int)]) GM hr rfl (aC (pdv 0)<|aC bB aO) ⟨c,30,rfl,by decide,rfl⟩ trivial rfl) bB<|by decide) h0 g λ_ _=>rfl) trivial rfl;show PAd _ _ _ ([.tup [.int 1,.int 1],.tup [.int 1,.int 2],.tup [.int 2,.int 1],.tup [.int 2,.int 2],.tup [.int 1,.int 3],.tup [.int 3,.int 1],.tup [.int 1,.int 4],.tup [.int 4,.int 1]].map R.val)
 repeat' (first|exact aO|refine aC (fY (ds:=[.int _,.int _]) (aC bB<|aC bB aO)<|aG rfl) ?_)
noncomputable def uR:D->D
 |.tup [a,_]=>a
 |d=>d
noncomputable def aPm:D->List Slot
 |.tup [a,b]=>[.val a,.val b]
 |_=>[.un,.un]
abbrev nl32:List Str:=["_law_script","_law_start","_law_size_here","_law_head","_law_factor","_law_many","_law_kit_here","_law_k","_law_cell","_law_step"]
theorem aHM(F:Fun K "_law_kit" "_law_kit" aJt f fd)(zrange:mg "range"=none)(zint:mg "int"=none)(hm:mg "_law_kit"=some (.ref f))(GC:bH P w K mg base "_law_cell_at" 1 2 aGQ)(GM:bH P w K mg base "_law_mixed" 1 2 CMx)(GD:bH P w K mg base "_law_drawn" 2 2 aMq):bH P w K mg base "_law_kit" 3 3 aIP:=by
 have nd:nl32.Nodup:=by decide+kernel
 have nd3:(["_law_one","_law_price_here"]:List Str).Nodup:=by decide+kernel
 refine cN (N:=nl32) (ps:=["_law_script","_law_start","_law_size_here"]) (k:=2) F hm λcdv A outer s H E hr ds r hl c=> ?_
 obtain⟨p,ns,st,hp,hst,rfl,rfl⟩:=c;have hr1:=hr.mono (show 1<=2 by decide);have hu:(A.deeper<|Af "_law_kit" (bI aJt) s.heap.objs.size f cdv).units+4<AQ:=by have:=hr.un;omega
 have mx:∀ {sd:List Slot}{x:Str}{p1 p2 p3 p4:Pos}{j1:Nat} (i:Nat) (c:Int) (k:Nat),k<=400->sd[i]? =some (.val<|.int c)->PE (nG CX0 P w K mg base nl32 "_law_kit" (bI aJt) f cdv A outer s H E).nox (.Name x p2) (mW i)->PEd (nG CX0 P w K mg base nl32 "_law_kit" (bI aJt) f cdv A outer s H E).nox sd (.Call (.Name "_law_mixed" p1) [.Name x p2, .Constant (.int (k:Int)) j1 p3] [] p4) (.val (.int<|mxS c k)):=λi c k hk hs hx=>bM (ds:=[.int c,.int (k:Int)]) GM hr1 rfl (aC (kR i hs hx)<|aC bB aO) ⟨c,k,rfl,hk,rfl⟩ trivial rfl
 refine aF<|iB (d:=.int<|ns.getD st 0) 3 (bM (ds:=[.scr ns,.int (st:Int)]) GC hr1 rfl (aC (pdv 0)<|aC (pdv 1) aO) ⟨ns,st,rfl,by omega,rfl⟩ trivial rfl) ?_;have eK:yR p ns st=gW p ns st (oE<|ns.getD st 0) (oW<|ns.getD st 0):=rfl;rw[eK];generalize ns.getD st 0=c;have hf:=vW c;obtain⟨m1,m2⟩:=aAd c;have eF:(([1,1,3]:List Int).map D.int)[(mxS c 10%3).toNat]? =some (.int<|oE c):=wY (show(mxS c 10%3).toNat<([1,1,3]:List Int).length from(gX (mxS c 10) (n:=3)<|by decide).1);refine aF<|iB (d:=.int<|oE c) 4 (qF (i:=mxS c 10%3) (ds:=([1,1,3]:List Int).map D.int) (PEd.bor<|PEd.val (hG (ds:=[.int 1,.int 1,.int 3]) (aC bB (aC bB<|aC bB aO))<|aG rfl)) (cT fM (mx 3 c 10 (by decide) rfl<|pv 3) bB<|by decide) (gX (mxS c 10) (n:=3)<|by decide).2 eF λ_ _=>rfl) ?_;refine aF<|iB (d:=.int ((oW c:Nat):Int)) 5 (PEd.ic (gE gZ (gE gZ bB (cT fM (mx 3 c 11 (by decide) rfl<|pv 3) bB<|by decide)) (aKh rfl zint<|aDV (cT fM (mx 3 c 12 (by decide) rfl<|pv 3) bB<|by decide) bB)) ?_) ?_
 ·have h0:=(gX (mxS c 11) (n:=4)<|by decide).2;have h0:0<=mxS c 11%4:=h0;unfold oW
  by_cases h:mxS c 12%8=1
  ·rw[if_pos h,if_pos<|decide_eq_true h];omega
  ·rw[if_neg h,if_neg<|by simpa using h];omega
 generalize oE c=fc at hf;generalize oW c=mn at m1 m2;refine aF<|tU (ds:=([]:List SK).map skD) 6 (hG (ds:=[]) aO<|bW _) λl3=> ?_;refine aF<|gO (ds:=jR 0 mn) (λt sd=>sd=[.val<|.scr ns,.val<|.int (st:Int),.val<|cF p,.un,.val<|.int fc,.un,.own l3<|(gW p ns st fc t).map skD,.un,.un,.un]) (lH (n:=mn) rfl zrange (pdv 5)<|by omega) ⟨[.val<|.scr ns,.val<|.int (st:Int),.val<|cF p,.un,.val<|.int fc,.un,.own l3<|(gW p ns st fc 0).map skD,.un,.un,.un],⟨.inr rfl,.inr rfl,.inr rfl,.inl rfl,.inr rfl,.inl rfl,.inr rfl,.inr rfl,.inr rfl,.inr rfl,trivial⟩,rfl⟩ (λt d sdt hd ht=> ?_) λsdn hn=> ?_
 ·subst ht;obtain⟨ht,rfl⟩:=lJ hd;rw[aQS];refine⟨[.val<|.scr ns,.val<|.int (st:Int),.val<|cF p,.un,.val<|.int fc,.un,.own l3<|(gW p ns st fc t).map skD,.val<|.int (t:Int),.un,.un],dY 7<|pgn 7, ?_⟩;have ll:(gW p ns st fc t).length<=5:=cJ (uF hp ns st hf t).1 (by omega);have eN:gW p ns st fc (t+1)=if yB (gW p ns st fc t) (drQ p<|ns.getD (st+1+t) 0) then gW p ns st fc t else gW p ns st fc t++[(drQ p<|ns.getD (st+1+t) 0,fc*aGA (ns.getD (st+1+t) 0))]:=rfl
  rw[eN];refine aF<|iB (d:=.int<|ns.getD (st+1+t) 0) 8 (bM (ds:=[.scr ns,.int ((st+1+t:Nat):Int)]) GC hr1 rfl (aC (pdv 0)<|aC (PEd.ic (gE gZ (gE gZ (pdv 1) bB)<|pdv 7)<|by omega) aO) ⟨ns,st+1+t,rfl,by omega,rfl⟩ trivial rfl) ?_;generalize ns.getD (st+1+t) 0=x;generalize gW p ns st fc t=L at *;refine aF<|iB (d:=sqD<|drQ p x) 9 (bM (ds:=[cF p,.int x]) GD hr rfl (aC (pdv 2)<|aC (pdv 8) aO) ⟨p,x,hp,rfl,rfl⟩ trivial rfl) ?_;generalize drQ p x=q
  have plc:plL ((L.map skD).map uR)=true/\jT ((L.map skD).map uR)<=1:=by rw[aR];exact⟨aEZ (λs:SK=>uR<|skD s) (λs=>aLX s.1) _,aCp (λs:SK=>uR<|skD s) 1 (λs=>aGm<|aNk s.1) _⟩
  have ef:((L.map skD).filter λ_=>true).map uR=(L.map skD).map uR:=by rw[cU.mpr λ_ _=>rfl]
  have es:((L.map skD).map uR).any (λz=>deq z<|sqD q)=yB L q:=by unfold yB;rw[aR];rfl
  have pb:=aEb x;have eP:(([1,1,2,3]:List Int).map D.int)[(mxS x 5%4).toNat]? =some (.int<|aGA x):=wY (show(mxS x 5%4).toNat<([1,1,2,3]:List Int).length from(gX (mxS x 5) (n:=4)<|by decide).1);refine aY<|gG (k:= !yB L q) (PTd.lend 6 rfl (aLU rfl) (PTd.cast (aCu (pdv 9) (PEd.val (PEd.cast (iS (ds:=L.map skD) (N:=["_law_one","_law_price_here"]) (M:=nl32) (cap:=[none,none]) (sc:=bI aJt) (Tb:=aPm) (λ_=>true) uR (gH<|pdv 6) (by rw[aA];omega) rfl (by decide+kernel) rfl (by decide+kernel) rfl (λcl C fp s H d hd=> ?_) (λd hd=> ?_) (λcl C fp s H d hd=>.inl ⟨rfl,rfl⟩) λcl C fp s H d hd _=> ?_)<|by rw[ef])) (aLX q) plc.1<|by have:=plc.2;show(A.deeper<|Af "_law_kit" (bI aJt) s.heap.objs.size f cdv).units+1+_<AQ;omega)<|by rw[es])) (λh=> ?_) λh=> ?_
  ·obtain⟨s,_,rfl⟩:=aE.mp hd;exact kB (js:=[0,1]) rfl (dQ (pgn 0)<|dQ (pgn 1) jX) rfl rfl
  ·obtain⟨s,_,rfl⟩:=aE.mp hd;exact⟨.inl rfl,.inl rfl,trivial⟩
  ·obtain⟨s,_,rfl⟩:=aE.mp hd;exact(pdv 0)
  ·have h':yB L q=false:=by simpa using h
   rw[h'];refine aY<|pD (d:=skD (q,fc*aGA x)) 6 rfl (pv 6) (fY (ds:=[sqD q,.int<|fc*aGA x]) (aC (pdv 9)<|aC (cT jL (pdv 4) (qF (i:=mxS x 5%4) (ds:=([1,1,2,3]:List Int).map D.int) (PEd.bor<|PEd.val (hG (ds:=[.int 1,.int 1,.int 2,.int 3]) (aC bB<|aC bB (aC bB<|aC bB aO))<|aG rfl)) (cT fM (mx 8 x 5 (by decide) rfl<|pv 8) bB<|by decide) (gX (mxS x 5) (n:=4)<|by decide).2 eP λ_ _=>rfl)<|jM (cB (by omega:_<=3)<|by decide) (cB (by omega:_<=3)<|by decide)) aO)<|aG rfl) (by rw[aA];omega) ⟨[.val<|.scr ns,.val<|.int (st:Int),.val<|cF p,.un,.val<|.int fc,.un,.own l3<|(L++[(q,fc*aGA x)]).map skD,.un,.un,.un],⟨.inr rfl,.inr rfl,.inr rfl,.inr rfl,.inr rfl,.inr rfl,.inr ?_,.inl rfl,.inl rfl,.inl rfl,trivial⟩,rfl⟩;rw[aJ];rfl
  ·have h':yB L q=true:=by simpa using h
   rw[h'];exact cE ⟨[.val<|.scr ns,.val<|.int (st:Int),.val<|cF p,.un,.val<|.int fc,.un,.own l3<|L.map skD,.un,.un,.un],⟨.inr rfl,.inr rfl,.inr rfl,.inr rfl,.inr rfl,.inr rfl,.inr rfl,.inl rfl,.inl rfl,.inl rfl,trivial⟩,rfl⟩
 ·subst hn;rw[iU];refine jY 6 rfl ?_;exact aY<|bL (fY (ds:=[.lst<|(gW p ns st fc mn).map skD,.int fc]) (aC (pdv 6)<|aC (pdv 4) aO)<|aG rfl) trivial rfl
abbrev nl33:List Str:=["_law_cell","_law_kit_here","_law_factor"]
theorem aGZ(F:Fun K "_law_bound" "_law_bound" aQI f fd)(zlen:mg "len"=none)(hm:mg "_law_bound"=some (.ref f)):bH P w K mg base "_law_bound" 1 3 aJl:=by
 have nd:nl33.Nodup:=by decide+kernel
 refine cN (N:=nl33) (ps:=nl33) (k:=0) F hm λcdv A outer s H E hr ds r hl c=> ?_
 obtain⟨c,L,fc,l1,l2,hf,rfl,rfl⟩:=c;have g0:∀n:Nat,n<5->([12,5,4,3,2]:List Int).getD n 0=((([12,5,4,3,2]:List Nat).getD n 0:Nat):Int):=by decide+kernel
 have g:∀n:Nat,n<5->(([12,5,4,3,2]:List Int).map D.int)[n]? =some (.int ((([12,5,4,3,2]:List Nat).getD n 0:Nat):Int)):=λn hn=>by rw[<-g0 n hn];exact wY hn
 have g2:∀n:Nat,n<5->([12,5,4,3,2]:List Nat).getD n 0<=12:=by decide+kernel
 have gm:oJ L.length<=12:=g2 _ (by omega);have h0:=dM c (show(oJ L.length:Int)+1≠0 by omega);have h1:=cK c (show(0:Int)<(oJ L.length:Int)+1 by omega);refine aY<|bL (PEd.ic (gE gZ (cT jL (pdv 2) (cT fM (pdv 0) (gE gZ (qF (i:=(L.length:Int)-1) (d:=.int ((oJ L.length:Nat):Int)) (ds:=([12,5,4,3,2]:List Int).map D.int) (PEd.bor<|PEd.val (hG (ds:=[.int 12,.int 5,.int 4,.int 3,.int 2]) (aC bB (aC bB<|aC bB (aC bB<|aC bB aO)))<|aG rfl)) (gE pR (PEd.ic (mX rfl zlen (PEd.bor<|pdv 1))<|by rw[aA]) bB) (by omega) ?_ λ_ _=>rfl) bB)<|by omega)<|jM (cB (by omega:_<=3)<|by decide) (cB (by omega:_<=13)<|by decide)) (cT fM (cT nX (pdv 0) bB ⟨by decide,by decide⟩) (pdv 2)<|by omega)) rfl) trivial rfl;have e:((L.length:Int)-1).toNat=L.length-1:=by omega
 rw[e];exact g _<|by omega
abbrev nl34:List Str:=["_law_kit_here","_law_row_here"]
theorem aHI(F:Fun K "_law_price" "_law_price" aOW f fd)(zsum:mg "sum"=none)(hm:mg "_law_price"=some (.ref f)):bH P w K mg base "_law_price" 1 2 aJD:=by
 have nd:nl34.Nodup:=by decide+kernel
 refine cN (N:=nl34) (ps:=nl34) (k:=0) F hm λcdv A outer s H E hr ds r hl c=> ?_
 obtain⟨L,row,hrow,hl2,rfl,rfl⟩:=c;have nd2:(["_law_number","_law_kit_here"]:List Str).Nodup:=by decide+kernel
 have ec:((bJ row).filter λ_=>true).map (λd=>match d with | .int t=>D.int (L.getD t.toNat AM).2|_=>.non)=(zL L row).map D.int:=by
  rw[cU.mpr λ_ _=>rfl];unfold bJ zL;rw[aR,aR];refine bQ λt _=> ?_
  simp
 refine aY<|bL (PEd.ic (aEw (ns:=zL L row) rfl zsum (PEd.bor<|PEd.val (PEd.cast (iS (ds:=bJ row) (N:=["_law_number","_law_kit_here"]) (M:=nl34) (cap:=[none,some 0]) (sc:=bI aOW) (Tb:=λd=>[.val d,.val (.lst<|L.map skD)]) (λ_=>true) (λd=>match d with | .int t=>D.int (L.getD t.toNat AM).2|_=>.non) (lZ<|pdv 1) (by rw[show(bJ row).length=row.length from aA _];omega) rfl (by decide+kernel) rfl (by decide+kernel) rfl (λcl C fp s H d _=>dY 0<|pgn 0) (λd _=>⟨.inl rfl,.inr rfl,trivial⟩) (λcl C fp s H d hd=>.inl ⟨rfl,rfl⟩) λcl C fp s H d hd _=> ?_)<|by rw[ec])))<|aIN L row) trivial rfl;obtain⟨t,ht,rfl⟩:=aE.mp hd;have hn:=hrow t ht;exact cZ (n:=1) (ds:=[sqD (L.getD t AM).1,.int (L.getD t AM).2]) (kX (n:=t) (PEd.bor<|pdv 1) (pdv 0) (aIv hn) λ_ _=>rfl) bB rfl λ_ _=>rfl
abbrev nl35:List Str:=["_law_size_here","_law_moves_here","_law_row_here","_law_table_here","_law_number"]
abbrev nl36:List Str:=["_law_filling","_law_moves_here","_law_number"]
theorem aHe(F:Fun K "_law_table" "_law_table" aOv f fd)(ztuple:mg "tuple"=none)(hm:mg "_law_table"=some (.ref f))(GF:bH P w K mg base "_law_fillings" 1 1 xR):bH P w K mg base "_law_table" 2 3 (aJa P w K):=by
 have nd:nl35.Nodup:=by decide+kernel
 have nd2:nl36.Nodup:=by decide+kernel
 refine cN (N:=nl35) (ps:=["_law_size_here","_law_moves_here","_law_row_here"]) (k:=1) F hm λcdv A outer s H E hr ds r hl c=> ?_
 obtain⟨p,L,row,hp,S,ho,rl,rfl,rfl⟩:=c;have hu:(A.deeper<|Af "_law_table" (bI aOv) s.heap.objs.size f cdv).units+2<AQ:=by have:=hr.un;omega
 refine aF<|iB (d:=.tup<|(bT p).map bF) 3 (oD rfl ztuple<|PEd.bor (PEd.val<|bM (ds:=[cF p]) GF hr rfl (aC (pdv 0) aO) ⟨p,hp,rfl,rfl⟩ trivial rfl)) ?_;refine aF<|gO (ds:=bJ row) (λt sd=>sd=[.val<|cF p,.val<|.lst (L.map<|mgD P w K p),.val (.tup<|bJ row),.val (.tup<|(S45.tabQ (kI p L) (bT p)<|row.take t).map bF),.un]) (lZ<|pdv 2) ⟨_,Le.refl _,rfl⟩ (λt d sdt hd ht=> ?_) λsdn hn=> ?_
 ·subst ht;obtain⟨k,hk,rfl,et⟩:=lR hd;have kl:k<L.length:=ho k<|bD hk;have hot:fX L (row.take t):=λi hi=>ho i (iK hi)
  have tl:=aFZ hp S hot;have ti:=xB hp S hot;rw[et,S45.tab_snoc];have eB:∀T,kI p L k T=T.map (onQ p (L.getD k AM).1):=λ_=>rfl
  rw[eB]
  have mv1:(L.map<|mgD P w K p)[k]? =some (mgD P w K p<|L.getD k AM):=by rw[bA];simp[bX,kl]
  generalize S45.tabQ (kI p L) (bT p) (row.take t)=tab at tl ti;generalize L.getD k AM=sk at mv1;refine⟨[.val<|cF p,.val<|.lst (L.map<|mgD P w K p),.val (.tup<|bJ row),.val (.tup<|tab.map bF),.val<|.int (k:Int)],dY 4<|pgn 4, ?_⟩
  have ec:((tab.map bF).filter λ_=>true).map (λd=>bF (onQ p sk.1<|nK d))=(tab.map<|onQ p sk.1).map bF:=by
   rw[cU.mpr λ_ _=>rfl,aR,aR];refine bQ λws _=> ?_
   show bF (onQ p sk.1 (nK<|bF ws))=_;rw[lG];rfl
  refine aY<|iB (d:=.tup<|(tab.map<|onQ p sk.1).map bF) 3 (oD rfl ztuple (PEd.bor<|PEd.val (PEd.cast (iS (ds:=tab.map bF) (N:=nl36) (M:=nl35) (cap:=[none,some 1,some 4]) (sc:=bI aOv) (Tb:=λd=>[.val d,.val<|.lst (L.map<|mgD P w K p),.val<|.int (k:Int)]) (λ_=>true) (λd=>bF (onQ p sk.1<|nK d)) (lZ<|pdv 3) (by rw[aA];omega) rfl (by decide+kernel) rfl (by decide+kernel) rfl (λcl C fp s H d hd=>dY 0<|pgn 0) (λd hd=>⟨.inl rfl,.inr rfl,.inr rfl,trivial⟩) (λcl C fp s H d hd=>.inl ⟨rfl,rfl⟩) λcl C2 fp s H d hd _=> ?_)<|by rw[ec]))) ⟨[.val<|cF p,.val<|.lst (L.map<|mgD P w K p),.val (.tup<|bJ row),.val (.tup<|(tab.map<|onQ p sk.1).map bF),.un],⟨.inr rfl,.inr rfl,.inr rfl,.inr rfl,.inl rfl,trivial⟩,rfl⟩;obtain⟨ws,hw,rfl⟩:=xF hd;obtain⟨i,hi⟩:=gU<|ti ws hw;rw[lG];exact aAX (hk:=hkT P w) (k:=inK ws) (n:=i) (d:=bF<|onQ p sk.1 ws) hu (rZ<|kX (n:=k) (PEd.bor<|pdv 1) (pdv 2) mv1 λ_ _=>rfl) (PEd.cast (pdv 0)<|by rw[show(hkT P w).dat (inK ws)=tD (inK ws) from rfl,aMA]) (by rw[bA,hi];rfl) (by rw[bA,hi];rfl) λ_ _=>rfl
 ·subst hn;rw[nR,eQ];exact aY<|bL (pdv 3) trivial rfl
abbrev nl37:List Str:=["_law_script","_law_start","_law_kit_here","_law_bound_here","_law_row_here","_law_cell","_law_number"]
theorem aHc(F:Fun K "_law_row" "_law_row" aOO f fd)(zlen:mg "len"=none)(hm:mg "_law_row"=some (.ref f))(GP:bH P w K mg base "_law_price" 1 2 aJD):bH P w K mg base "_law_row" 2 4 aJh:=by
 have nd:nl37.Nodup:=by decide+kernel
 refine cN (N:=nl37) (ps:=["_law_script","_law_start","_law_kit_here","_law_bound_here"]) (k:=1) F hm λcdv A outer s H E hr ds r hl c=> ?_
 obtain⟨ns,st,p,L,b,S,hb,hst,n63,hbit,rfl,rfl⟩:=c;have hL:=S.pos;have l8:=S.le;have e0:xM L b ns st=tJ L b [] (ns.drop st):=rfl;have cbit:∀c∈ns.drop st,aJs c:=λc hc=>hbit c<|jO hc
 have cl:(ns.drop st).length<=63:=by rw[iC];omega
 have ec:DL.cutD (ns.map D.int) (some (st:Int)) none=(ns.drop st).map D.int:=by rw[aAa,kH]
 rw[e0];generalize ns.drop st=cs at cbit cl ec;refine aF<|iB (d:=.tup<|bJ []) 4 (fY (ds:=[]) aO<|aG rfl) ?_;refine aF<|gO (ds:=cs.map D.int) (λt sd=>∃q,fX L q/\q.length<=t/\tJ L b q (cs.drop t)=tJ L b [] cs/\sd=[.val<|.scr ns,.val<|.int (st:Int),.val (.lst<|L.map skD),.val<|.int b,.val (.tup<|bJ q),.un,.un]) (gH<|PEd.val (PEd.cast (aNG (ol:=some (st:Int)) (oh:=none) (pdv 0) (pdv 1) trivial)<|by rw[ec])) ⟨_,Le.refl _,[],λi hi=>(nomatch hi),aP _,rfl,rfl⟩ (λt d sdt hd ht=> ?_) λsdn hn=> ?_
 ·obtain⟨q,q1,q2,q3,rfl⟩:=ht;obtain⟨c,hc,rfl,_⟩:=lR hd;obtain⟨tl,etc⟩:=aK.mp hc;have cb:=cbit c<|bD hc;have ed:cs.drop t=c::cs.drop (t+1):=by rw[dJ tl,etc]
  rw[ed] at q3;have q3:(if b<S45.prQ (prK L) (q++[qR L c]) then q else tJ L b (q++[qR L c]) (cs.drop<|t+1))=tJ L b [] cs:=q3;have hn:=aEe hL c
  have en:((qR L c:Nat):Int)=c*16807%2147483647%(L.length:Int):=by unfold qR;have:=(gX (c*16807%2147483647) hL).2;omega
  generalize qR L c=m at q3 hn en;refine⟨[.val<|.scr ns,.val<|.int (st:Int),.val (.lst<|L.map skD),.val<|.int b,.val (.tup<|bJ q),.val<|.int c,.un],dY 5<|pgn 5, ?_⟩;refine aF<|iB (d:=.int (m:Int)) 6 (PEd.ic (cT fM (cT fM (cT jL (pdv 5) bB (aKP cb<|by decide+kernel)) bB<|by decide) (PEd.ic (mX rfl zlen (PEd.bor<|pdv 2))<|by rw[aA])<|by omega) en.symm) ?_;have es:bJ q++[.int (m:Int)]=bJ (q++[m]):=by unfold bJ;rw[aJ];rfl
  have ho1:fX L (q++[m]):=λi hi=>by
   rcases aU.mp hi with hi|hi
   ·exact q1 i hi
   ·rw[aN.mp hi];exact hn
  have ql:(q++[m]).length<=t+1:=by rw[aQ];show _+1<=_;omega
  have longer:∀ {sd:List Slot}{p1 p2 p3 p4:Pos}{x1:Nat},sd[4]? =some (.val (.tup<|bJ q))->sd[6]? =some (.val<|.int (m:Int))->PEd (nG CX0 P w K mg base nl37 "_law_row" (bI aOO) f cdv A outer s H E).nox sd (.BinOp (.Name "_law_row_here" p1) .Add (.Tuple [.Name "_law_number" p2] x1 p3) p4) (.val<|.tup (bJ<|q++[m])):=λh1 h2=>PEd.cast (lO (d1:=bJ q) (d2:=[.int (m:Int)]) (kR 4 h1<|pv 4) (fY (ds:=[.int (m:Int)]) (aC (kR 6 h2<|pv 6) aO)<|aG rfl)<|by rw[nR];show _+1<=1000;omega) (by rw[es])
  refine aF<|gG (k:=decide<|b<S45.prQ (prK L) (q++[m])) (nH aJH (bM (ds:=[.lst<|L.map skD,.tup (bJ<|q++[m])]) GP hr rfl (aC (pdv 2)<|aC (longer rfl rfl) aO) ⟨L,q++[m],ho1,by omega,rfl,rfl⟩ trivial rfl) (pdv 3)<|iI _) (λh=> ?_) λh=>cE ?_
  ·rw[if_pos<|of_decide_eq_true h] at q3;rw[<-q3];exact aY<|bL (pdv 4) trivial rfl
  ·rw[if_neg<|of_decide_eq_false h] at q3;exact aY<|iB (d:=.tup (bJ<|q++[m])) 4 (longer rfl rfl) ⟨[.val<|.scr ns,.val<|.int (st:Int),.val (.lst<|L.map skD),.val<|.int b,.val<|.tup (bJ<|q++[m]),.un,.un],⟨.inr rfl,.inr rfl,.inr rfl,.inr rfl,.inr rfl,.inl rfl,.inl rfl,trivial⟩,q++[m],ho1,ql,q3,rfl⟩
 ·obtain⟨q,q1,q2,q3,rfl⟩:=hn;rw[aA,vU] at q3;have q3:q=tJ L b [] cs:=q3;rw[<-q3];exact aY<|bL (pdv 4) trivial rfl
abbrev nl38:List Str:=["_law_size_here","_law_filling","_law_number","_law_box","_law_other"]
abbrev nl39:List Str:=["_law_one","_law_box","_law_filling"]
theorem aFK(F:Fun K "_law_some" "_law_some" aGL f fd)(zsorted:mg "sorted"=none)(zset:mg "set"=none)(hm:mg "_law_some"=some (.ref f))(GF:bH P w K mg base "_law_fillings" 1 1 xR):bH P w K mg base "_law_some" 2 3 aMr:=by
 have nd:nl38.Nodup:=by decide+kernel
 have nd2:nl39.Nodup:=by decide+kernel
 refine cN (N:=nl38) (ps:=["_law_size_here","_law_filling","_law_number"]) (k:=1) F hm λcdv A outer s H E hr ds r hl c=> ?_
 obtain⟨p,g,n,hp,hg,rfl,rfl⟩:=c;have hu:(A.deeper<|Af "_law_some" (bI aGL) s.heap.objs.size f cdv).units+10<AQ:=by have:=hr.un;omega
 have f9:(bT p).length<=64:=kA hp;have fpos:0<(bT p).length:=hX.mpr λz=>by rw[z] at hg;cases hg
 obtain⟨s1,s2,s3,s4,s5⟩:=xQ p hp;have p20:(0:Int)<p.2:=by omega
 have q0:=dM (n / 5)<|lM p20;have q1:=cK (n / 5) p20;have gl:=(lN hp hg).len;have e0:uN p g n=if n%5=0 then none else if n%5<3 then some [g] else if n%5=3 then some ((bT p).filter λh=>decide<|h.getD (n / 5%p.2).toNat 0=g.getD (n / 5%p.2).toNat 0) else some ((bT p).filter λh=>decide<|h∈[g,(bT p).getD (n / 40%((bT p).length:Int)).toNat []]):=rfl
 rw[e0];refine aF<|iB (d:=.int (((n / 5%p.2).toNat:Nat):Int)) 3 (PEd.ic (cT fM (cT nX (pdv 2) bB ⟨by decide,by decide⟩) (cZ (n:=1) (d:=.int p.2) (pdv 0) bB rfl λ_ _=>rfl) p20)<|by omega) ?_;have bl:(n / 5%p.2).toNat<p.2.toNat:=by omega
 generalize (n / 5%p.2).toNat=bx at bl;refine aF<|gG (k:=decide<|n%5=0) (vM (cT fM (pdv 2) bB<|by decide) bB) (λh=> ?_) λh=>cE ?_
 ·rw[if_pos<|of_decide_eq_true h];exact aY<|bL kQ trivial rfl
 rw[if_neg<|of_decide_eq_false h];refine aF<|gG (k:=decide<|n%5<3) (nH zW (cT fM (pdv 2) bB<|by decide) bB<|iI _) (λh=> ?_) λh=>cE ?_
 ·rw[if_pos<|of_decide_eq_true h];exact aY<|bL (PEd.val (hG (ds:=[bF g]) (aC (pdv 1) aO)<|aG rfl)) trivial rfl
 rw[if_neg<|of_decide_eq_false h];refine aF<|gG (k:=decide<|n%5=3) (vM (cT fM (pdv 2) bB<|by decide) bB) (λh=> ?_) λh=>cE ?_
 ·rw[if_pos<|of_decide_eq_true h]
  have ec:(((bT p).map bF).filter λd=>decide<|(nK d).getD bx 0=g.getD bx 0).map id=((bT p).filter λh=>decide<|h.getD bx 0=g.getD bx 0).map bF:=by
   rw[iL,aLK];congr 1;refine uT λh _=> ?_
   show decide ((nK<|bF h).getD bx 0=_)=_;rw[lG]
  refine aY<|bL (PEd.val (PEd.cast (iS (ds:=(bT p).map bF) (N:=nl39) (M:=nl38) (cap:=[none,some 3,some 1]) (sc:=bI aGL) (Tb:=λd=>[.val d,.val<|.int (bx:Int),.val<|bF g]) (λd=>decide<|(nK d).getD bx 0=g.getD bx 0) id (gH (PEd.val<|bM (ds:=[cF p]) GF hr rfl (aC (pdv 0) aO) ⟨p,hp,rfl,rfl⟩ trivial rfl)) (by rw[aA];omega) rfl (by decide+kernel) rfl (by decide+kernel) rfl (λcl C fp s H d hd=>dY 0<|pgn 0) (λd hd=>⟨.inl rfl,.inr rfl,.inr rfl,trivial⟩) (λcl C fp s H d hd=>.inr ⟨_,rfl, ?_⟩) λcl C2 fp s H d hd _=>(pdv 0))<|by rw[ec])) trivial rfl;obtain⟨h,hh,rfl⟩:=xF hd;have hl:=(lN hp hh).len;rw[lG];exact vM (cZ (n:=bx) (ds:=h.map D.int) (pdv 0) (pdv 1) (wY<|by omega) λ_ _=>rfl)<|cZ (n:=bx) (ds:=g.map D.int) (pdv 2) (pdv 1) (wY<|by omega) λ_ _=>rfl
 rw[if_neg<|of_decide_eq_false h]
 have em:p.1*p.2=((p.1.toNat*p.2.toNat:Nat):Int):=by rw[Int.natCast_mul];congr 1<;>omega
 have m6:p.1.toNat*p.2.toNat<=1000:=by
  have:((p.1.toNat*p.2.toNat:Nat):Int)<=6:=by rw[<-em];exact s5
  omega
 have e2:((2^(p.1.toNat*p.2.toNat):Nat):Int)=((bT p).length:Int):=by unfold bT;rw[sG,<-Nat.pow_mul]
 obtain⟨o1,o0⟩:=gX (n / 40) fpos;have om:(bT p).getD (n / 40%((bT p).length:Int)).toNat []∈bT p:=getD_mem o1;refine aF<|iB (d:=bF<|(bT p).getD (n / 40%((bT p).length:Int)).toNat []) 4 (qF (i:=n / 40%((bT p).length:Int)) (ds:=(bT p).map bF) (PEd.bor (PEd.val<|bM (ds:=[cF p]) GF hr rfl (aC (pdv 0) aO) ⟨p,hp,rfl,rfl⟩ trivial rfl)) (cT fM (cT nX (pdv 2) bB ⟨by decide,by decide⟩) (PEd.ic (vL (k:=p.1.toNat*p.2.toNat) (PEd.ic (cT jL (cZ (n:=0) (d:=.int p.1) (pdv 0) bB rfl λ_ _=>rfl) (cZ (n:=1) (d:=.int p.2) (pdv 0) bB rfl λ_ _=>rfl)<|jM (cB (by omega:_<=6)<|by decide) (cB (by omega:_<=6)<|by decide)) em) m6) e2)<|by omega) o0 (tH o1) λ_ _=>rfl) ?_;generalize (bT p).getD (n / 40%((bT p).length:Int)).toNat []=o at om
 have inA:∀x∈[g,o],x∈bT p:=λx hx=>by
  rcases aW.mp hx with rfl|hx
  ·exact hg
  ·rw[aN.mp hx];exact om
 exact aY (bL (PEd.val (aBo (rk:=oI p) (ps:=[g,o]) (qs:=(bT p).filter fun h=>decide (h∈[g,o])) hu rfl zsorted rfl zset (PEd.val (hG (ds:=[bF g,bF o]) (aC (pdv 1) (aC (pdv 4) aO)) (aG rfl))) (fun x hx z=>by
  have:=(lN hp<|inA x hx).len;rw[z] at this;simp at this
  omega) (by show 2<=3;decide) (λx hx y hy=>aJY p hp x (inA x hx) y (inA y hy)) (λx hx y hy=>aHF hp (inA x hx) (inA y hy)) (λx=>⟨λh=>of_decide_eq_true (eZ.mp h).2,λh=>eZ.mpr ⟨inA x h,decide_eq_true h⟩⟩) ((aER hp).filter _))) trivial rfl)
abbrev nl40:List Str:=["_law_script","_law_start","_law_size_here","_law_table_here","_law_wish_here","_law_away","_law_k","_law_number","_law_filling"]
theorem aFr(F:Fun K "_law_wish" "_law_wish" aMy f fd)(zlen:mg "len"=none)(zrange:mg "range"=none)(hm:mg "_law_wish"=some (.ref f))(GC:bH P w K mg base "_law_cell_at" 1 2 aGQ)(GM:bH P w K mg base "_law_mixed" 1 2 CMx)(GS:bH P w K mg base "_law_some" 2 3 aMr):bH P w K mg base "_law_wish" 3 4 aMp:=by
 have nd:nl40.Nodup:=by decide+kernel
 refine cN (N:=nl40) (ps:=["_law_script","_law_start","_law_size_here","_law_table_here"]) (k:=2) F hm λcdv A outer s H E hr ds r hl c=> ?_
 obtain⟨p,T,ns,st,hp,tl,tin,hst,rfl,rfl⟩:=c;have hr1:=hr.mono (show 1<=2 by decide);have f9:(bT p).length<=64:=kA hp;refine aF<|tU (ds:=([]:List (Option (List<|List Int))).map wsD) 4 (hG (ds:=[]) aO<|aG rfl) λl4=> ?_;refine aF<|iB (d:=.bl (decide<|ns.getD st 0%6=1)) 5 (aDV (cT fM (bM (ds:=[.scr ns,.int (st:Int)]) GC hr1 rfl (aC (pdv 0)<|aC (pdv 1) aO) ⟨ns,st,rfl,by omega,rfl⟩ trivial rfl) bB<|by decide) bB) ?_;refine aF<|gO (ds:=jR 0 T.length) (λt sd=>sd=[.val<|.scr ns,.val<|.int (st:Int),.val<|cF p,.val (.tup<|T.map bF),.own l4<|(sP p T ns st t).map wsD,.val<|.bl (decide<|ns.getD st 0%6=1),.un,.un,.un]) (lH (n:=T.length) rfl zrange (PEd.ic (aEA rfl zlen<|pdv 3)<|by rw[aA])<|by omega) ⟨_,Le.refl _,rfl⟩ (λt d sdt hd ht=> ?_) λsdn hn=> ?_
 ·subst ht;obtain⟨tT,rfl⟩:=lJ hd;rw[aQS,aCL];have wl:((sP p T ns st t).map wsD).length<=1000:=by unfold sP;rw[aA,aA,fQ];omega
  generalize sP p T ns st t=W at wl;refine⟨[.val<|.scr ns,.val<|.int (st:Int),.val<|cF p,.val (.tup<|T.map bF),.own l4<|W.map wsD,.val<|.bl (decide<|ns.getD st 0%6=1),.val<|.int (t:Int),.un,.un],dY 6<|pgn 6, ?_⟩;refine aF<|iB (d:=.int (mxS (ns.getD (st+1+t) 0)<|70+t)) 7 (bM (ds:=[.int<|ns.getD (st+1+t) 0,.int ((70+t:Nat):Int)]) GM hr1 rfl (aC (bM (ds:=[.scr ns,.int ((st+1+t:Nat):Int)]) GC hr1 rfl (aC (pdv 0)<|aC (PEd.ic (gE gZ (gE gZ (pdv 1) bB)<|pdv 6)<|by omega) aO) ⟨ns,st+1+t,rfl,by omega,rfl⟩ trivial rfl)<|aC (PEd.ic (gE gZ bB<|pdv 6)<|by omega) aO) ⟨_,70+t,rfl,by omega,rfl⟩ trivial rfl) ?_;generalize mxS (ns.getD (st+1+t) 0) (70+t)=n;have wi:=aFc tin (ns.getD st 0) n tT;have e0:aCB T (ns.getD st 0) n t=if ns.getD st 0%6=1 then T.getD (n / 7%(T.length:Int)).toNat [] else T.getD t []:=rfl
  obtain⟨o1,o0⟩:=gX (n / 7) (show 0<T.length by omega);refine aF<|iB (d:=bF<|T.getD t []) 8 (cZ (n:=t) (pdv 3) (pdv 6) (tH tT) λ_ _=>rfl) ?_;generalize ns.getD st 0=a at wi e0;refine aJz (K:=∀g,aCB T a n t=g->PSd _ [.val<|.scr ns,.val<|.int (st:Int),.val<|cF p,.val (.tup<|T.map bF),.own l4<|W.map wsD,.val<|.bl (decide<|a%6=1),.val<|.int (t:Int),.val<|.int n,.val<|bF g] _ _) (λkey=>aF<|gG (k:=decide<|a%6=1) (kP<|pdv 5) (λh=> ?_) λh=>cE (key _<|e0.trans (if_neg<|of_decide_eq_false h))) λg hg=> ?_
  ·exact aY<|iB (d:=bF<|T.getD (n / 7%(T.length:Int)).toNat []) 8 (mY (i:=n / 7%(T.length:Int)) (pdv 3) (cT fM (cT nX (pdv 7) bB ⟨by decide,by decide⟩) (PEd.ic (aEA rfl zlen<|pdv 3)<|by rw[aA])<|by omega) o0 (tH o1) λ_ _=>rfl) (key _<|e0.trans (if_pos<|of_decide_eq_true h))
  ·rw[hg] at wi ⊢;refine aY<|pD (d:=wsD<|uN p g n) 4 rfl (pv 4) (bM (ds:=[cF p,bF g,.int n]) GS hr rfl (aC (pdv 2) (aC (pdv 8)<|aC (pdv 7) aO)) ⟨p,g,n,hp,wi,rfl,rfl⟩ trivial rfl) wl ⟨[.val<|.scr ns,.val<|.int (st:Int),.val<|cF p,.val (.tup<|T.map bF),.own l4<|(W++[uN p g n]).map wsD,.val<|.bl (decide<|a%6=1),.un,.un,.un],⟨.inr rfl,.inr rfl,.inr rfl,.inr rfl,.inr ?_,.inr rfl,.inl rfl,.inl rfl,.inl rfl,trivial⟩,rfl⟩;rw[aJ];rfl
 ·subst hn;rw[iU];exact aY<|nY 4 rfl (pv 4) rfl
abbrev nl41:List Str:=["_law_size_here","_law_kit_here","_law_bound_here","_law_wish_here","_law_book","_law_due","_law_handed","_law_found"]
theorem aCN(F:Fun K "_law_right" "_law_right" sRi f fd)(zlist:mg "list"=none)(zisinstance:mg "isinstance"=none)(zbool:mg "bool"=none)(hm:mg "_law_right"=some (.ref f))(GS:bH P w K mg base "shows_none" 7 5 aEy):bH P w K mg base "_law_right" 8 6 tO:=by
 have nd:nl41.Nodup:=by decide+kernel
 refine cN (N:=nl41) (ps:=["_law_size_here","_law_kit_here","_law_bound_here","_law_wish_here","_law_book","_law_due"]) (k:=7) F hm λcdv A outer s H E hr ds r hl c=> ?_
 obtain⟨p,L,b,Es,ws,hp,S,dn,Sh,h0,W,hB,rfl,rfl⟩:=c;have hu:(A.deeper<|Af "_law_right" (bI sRi) s.heap.objs.size f cdv).units+6<AQ:=by have:=hr.un;omega
 obtain⟨p1,d1⟩:=aMY L;obtain⟨p2,d2⟩:=aOa Es;have p3:=aNn ws;have d3:=qK wsD 2 aNv ws
 have pp:pl (.lst [.lst<|L.map skD,.lst<|ws.map wsD,.lst<|Es.map e0D])=true:=by show(plL (L.map skD)&&(plL (ws.map wsD)&&(plL (Es.map e0D)&&true)))=true;rw[p1,p2,p3];rfl
 refine aF<|tU (ds:=[.lst<|L.map skD,.lst<|ws.map wsD,.lst<|Es.map e0D]) 6 (hG (ds:=[.lst<|L.map skD,.lst<|ws.map wsD,.lst<|Es.map e0D]) (aC (PEd.val<|vX rfl zlist (PEd.bor<|pdv 1)) (aC (PEd.val<|vX rfl zlist (PEd.bor<|pdv 3))<|aC (PEd.val<|vX rfl zlist (PEd.bor<|pdv 4)) aO))<|aG rfl) λl4=>jY 6 rfl ?_;refine aF<|iB (d:=.bl (hoE p L b Es&&(ftQ p ws<|toB Es).isNone)) 7 (bM (ds:=[cF p,.lst<|L.map skD,.int b,.lst<|ws.map wsD,.lst<|Es.map e0D]) GS hr rfl (aC (pdv 0) (aC (kX (n:=0) (ds:=[.lst<|L.map skD,.lst<|ws.map wsD,.lst<|Es.map e0D]) (PEd.bor<|pdv 6) bB rfl λ_ _=>rfl)<|aC (pdv 2) (aC (kX (n:=1) (ds:=[.lst<|L.map skD,.lst<|ws.map wsD,.lst<|Es.map e0D]) (PEd.bor<|pdv 6) bB rfl λ_ _=>rfl)<|aC (kX (n:=2) (ds:=[.lst<|L.map skD,.lst<|ws.map wsD,.lst<|Es.map e0D]) (PEd.bor<|pdv 6) bB rfl λ_ _=>rfl) aO))) ⟨p,L,b,Es,ws,hp,S,dn,Sh,h0,W,hB,rfl,rfl⟩ trivial rfl) ?_;generalize (hoE p L b Es&&(ftQ p ws<|toB Es).isNone)=v;exact aY<|bL (PEd.cast (oX (k:=true) (j:=true) (PEd.cast (aAZ rfl zisinstance rfl zbool PyProof.Rows.boot_bool (pdv 7) (λ_=>by simp) (aCq _<|.bl v)) rfl) λ_=>oX (k:=true) (j:=true) (aNb (d1:=.bl v) (d2:=.bl v) (pdv 7) (pdv 5) rfl rfl rfl<|decide_eq_true rfl) λ_=>rB (PEd.cast (aDN (ra:=.val<|.lst [.lst<|L.map skD,.lst<|ws.map wsD,.lst<|Es.map e0D]) (rb:=.val<|.lst [.lst<|L.map skD,.lst<|ws.map wsD,.lst<|Es.map e0D]) (pdv 6) (PEd.val (hG (ds:=[.lst<|L.map skD,.lst<|ws.map wsD,.lst<|Es.map e0D]) (aC (pdv 1) (aC (pdv 3)<|aC (pdv 4) aO))<|aG rfl)) trivial trivial (.inr ⟨rfl,rfl⟩) pp pp (aGN hu<|by show max (jT (L.map skD)+1) (max (jT (ws.map wsD)+1)<|max (jT (Es.map e0D)+1) 0)+1+1<=6;omega))<|by show R.val (.bl (deq (.lst [.lst<|L.map skD,.lst<|ws.map wsD,.lst<|Es.map e0D])<|.lst [.lst<|L.map skD,.lst<|ws.map wsD,.lst<|Es.map e0D]))=_;rw[yU _ pp])) rfl) trivial rfl
abbrev nl42:List Str:=["_law_script","_law_size_here","_law_kit_here","_law_factor","_law_bound_here","_law_own","_law_wish_here","_law_found","_law_most","_law_plain","_law_book","_law_at","_law_price_here","_law_row_here","_law_table_here","_law_odd"]
theorem aNH(F:Fun K "law" "law" sN f fd)(zlen:mg "len"=none)(GC:bH P w K mg base "_law_cell_at" 1 2 aGQ)(GZ:bH P w K mg base "_law_size" 2 1 aMD)(GK:bH P w K mg base "_law_kit" 3 3 aIP)(GB:bH P w K mg base "_law_bound" 1 3 aJl)(GM:bH P w K mg base "_law_moves" 3 2 (aQk P w K))(GR:bH P w K mg base "_law_row" 2 4 aJh)(GT:bH P w K mg base "_law_table" 2 3 (aJa P w K))(GW:bH P w K mg base "_law_wish" 3 4 aMp)(GF:bH P w K mg base "_law_fillings" 1 1 xR)(GP:bH P w K mg base "_law_price" 1 2 aJD)(GO:bH P w K mg base "book_of" 6 3 aJJ)(GL:bH P w K mg base "least_row" 7 4 aMm)(GI:bH P w K mg base "_law_right" 8 6 tO):FnOk P w K mg base CX0 9 f fd ["_law_script"] (spC K 1 aGO):=by
 have nd:nl42.Nodup:=by decide+kernel
 have nd2:(["_law_filling"]:List Str).Nodup:=by decide+kernel
 refine aJj (N:=nl42) (ps:=["_law_script"]) (k:=8) F ⟨rfl,rfl,rfl,nd,rfl,by decide+kernel,by decide+kernel⟩ λcdv A outer s H E hr ds r hl c=> ?_
 obtain⟨ns,rfl,n63,hbit,rfl⟩:=c;have hr1:=hr.mono (show 1<=8 by decide);have hr2:=hr.mono (show 2<=8 by decide);have hr3:=hr.mono (show 3<=8 by decide);have hr6:=hr.mono (show 6<=8 by decide);have hr7:=hr.mono (show 7<=8 by decide);have hu:(A.deeper<|Af "law" (bI sN) s.heap.objs.size f cdv).units+8<AQ:=by have:=hr.un;omega
 have cell:∀ {sd:List Slot}{p1 p2 p3 p4:Pos}{j1:Nat} (k:Nat),k<=1000->sd[0]? =some (.val<|.scr ns)->PEd (nG CX0 P w K mg base nl42 "law" (bI sN) f cdv A outer s H E).nox sd (.Call (.Name "_law_cell_at" p1) [.Name "_law_script" p2, .Constant (.int (k:Int)) j1 p3] [] p4) (.val (.int<|ns.getD k 0)):=λk hk hs=>bM (ds:=[.scr ns,.int (k:Int)]) GC hr1 rfl (aC (kR 0 hs<|pv 0)<|aC bB aO) ⟨ns,k,rfl,hk,rfl⟩ trivial rfl
 refine aF<|iB (d:=cF (aGP<|ns.getD 0 0)) 1 (bM (ds:=[.int<|ns.getD 0 0]) GZ hr2 rfl (aC (cell 0 (by decide) rfl) aO) ⟨_,rfl,rfl⟩ trivial rfl) ?_;have hp:=aLz<|ns.getD 0 0;generalize aGP (ns.getD 0 0)=p at hp;have KO:=aHQ hp ns 2;refine aF<|aEU (d:=.tup [.lst<|(yR p ns 2).map skD,.int (oE<|ns.getD 2 0)]) (sd':=[.val<|.scr ns,.val<|cF p,.val (.lst<|(yR p ns 2).map skD),.val<|.int (oE<|ns.getD 2 0),.un,.un,.un,.un,.un,.un,.un,.un,.un,.un,.un,.un]) (bM (ds:=[.scr ns,.int ((2:Nat):Int),cF p]) GK hr3 rfl (aC (pdv 0) (aC bB<|aC (pdv 1) aO)) ⟨p,ns,2,hp,by decide,rfl,rfl⟩ trivial rfl) (kB (ds:=[.lst<|(yR p ns 2).map skD,.int (oE<|ns.getD 2 0)]) (js:=[2,3]) rfl (dQ (pgn 2)<|dQ (pgn 3) jX) rfl rfl) ?_;generalize yR p ns 2=L at KO;generalize oE (ns.getD 2 0)=fc at KO;have S:=KO.stk;have l5:=KO.le;obtain⟨b0,b1⟩:=aHK (ns.getD 1 0) L.length KO.f13;refine aF<|iB (d:=.int<|aCC (ns.getD 1 0) L.length fc) 4 (bM (ds:=[.int<|ns.getD 1 0,.lst<|L.map skD,.int fc]) GB hr1 rfl (aC (cell 1 (by decide) rfl) (aC (pdv 2)<|aC (pdv 3) aO)) ⟨_,L,fc,KO.pos,l5,KO.f13,rfl,rfl⟩ trivial rfl) ?_;generalize aCC (ns.getD 1 0) L.length fc=b at b0 b1;have FU:=aPy KO b1;have O:=aBH hp S FU;have hpr:=S.pr;have hpr:=S.pr;obtain⟨r1,r2,r3⟩:=aHC (b:=b) KO.pos b0 n63 25;refine aF<|iB (d:=.tup (bJ<|xM L b ns 25)) 5 (bM (ds:=[.scr ns,.int ((25:Nat):Int),.lst<|L.map skD,.int b]) GR hr2 rfl (aC (pdv 0)<|aC bB (aC (pdv 2)<|aC (pdv 4) aO)) ⟨ns,25,p,L,b,S,b0,by decide,n63,hbit,rfl,rfl⟩ trivial rfl) ?_;generalize xM L b ns 25=own at r1 r2 r3;have tl:=aEH hp S r1;have ti:=xB hp S r1;refine aF<|tU (ds:=(aDw p (S45.tabQ (kI p L) (bT p) own) ns 8).map wsD) 6 (bM (ds:=[.scr ns,.int ((8:Nat):Int),cF p,.tup<|(S45.tabQ (kI p L) (bT p) own).map bF]) GW hr3 rfl (aC (pdv 0)<|aC bB (aC (pdv 1)<|aC (bM (ds:=[cF p,.lst (L.map<|mgD P w K p),.tup<|bJ own]) GT hr2 rfl (aC (pdv 1) (aC (PEd.val<|bM (ds:=[cF p,.lst<|L.map skD]) GM hr3 rfl (aC (pdv 1)<|aC (pdv 2) aO) ⟨p,L,hp,S,rfl,rfl⟩ trivial rfl)<|aC (pdv 5) aO)) ⟨p,L,own,hp,S,r1,by omega,rfl,rfl⟩ trivial rfl) aO)) ⟨p,_,ns,8,hp,tl,ti,by decide,rfl,rfl⟩ trivial rfl) λl7=>jY 6 rfl ?_;have W:=(aHi hp tl ti ns 8).wish hp;generalize aDw p (S45.tabQ (kI p L) (bT p) own) ns 8=ws at W;refine aBz (sd':=[.val<|.scr ns,.val<|cF p,.val (.lst<|L.map skD),.val<|.int fc,.val<|.int b,.val (.tup<|bJ own),.val (.lst<|ws.map wsD),.un,.un,.un,.un,.un,.un,.un,.un,.un]) (Le.refl _) ?_;refine aF<|iB (d:=lrD p ws<|bkQ p L b) 7 (bM (ds:=[cF p,.lst<|L.map skD,.int b,.lst<|ws.map wsD]) GL hr7 rfl (aC (pdv 1)<|aC (pdv 2) (aC (pdv 4)<|aC (pdv 6) aO)) ⟨p,L,b,_,ws,hp,S,KO.nd,FU,W,rfl,rfl⟩ trivial rfl) ?_;refine aF<|iB (d:=.int b) 8 (pdv 4) ?_;have bookd:∀ (B:List Bk),D.lst (B.map enD)=.lst ((bk0 B).map e0D):=λB=>by rw[zX]
 have f9:(bT p).length<=64:=kA hp
 have fine:∀ {m:Int}{B:List Bk}{u:List (Option (List<|List Int))}{v:Bool},BqOk p L m B->0<=m->oY p u->(ftQ p u B).isNone=v->tO [cF p,.lst<|L.map skD,.int m,.lst<|u.map wsD,.lst<|B.map enD,.bl v] (.val<|.bl true):=λ{m B u v} O h0 hu hv=>by refine⟨p,L,m,bk0 B,u,hp,S,KO.nd,aIS O,h0,hu,λ_=>by rw[vI];exact O, ?_,rfl⟩;rw[aPV hp S O h0,vI,hv,zX];rfl
 have bad:∀ {m:Int}{Es:List E0}{ds:List D},hoE p L m Es=false->0<=m->ShE Es->Es.map e0D=ds->tO [cF p,.lst<|L.map skD,.int m,.lst<|ws.map wsD,.lst ds,.bl false] (.val<|.bl true):=λ{m Es ds} ho h0 Sh hd=>by subst hd;refine⟨p,L,m,Es,ws,hp,S,KO.nd,Sh,h0,W,λz=>(by rw[ho] at z;cases z), ?_,rfl⟩;rw[ho];rfl
 refine aNd (α:=List D×Int) (λa=>[.val<|.scr ns,.val<|cF p,.val (.lst<|L.map skD),.val<|.int fc,.val<|.int b,.val (.tup<|bJ own),.val (.lst<|ws.map wsD),.val<|.tup a.1,.val<|.int a.2,.un,.un,.un,.un,.un,.un,.un]) (λa=>a.2<=b/\(a.2<0->a.1[2]? =some (.lst []))/\(0<=a.2->∃C,atI a.1 (-1)=some (.lst<|C.map enD)/\BqOk p L a.2 C/\ftQ p ws C=none)) (λkey=> ?_) λ⟨fds,m⟩ ⟨mb,q0,q1⟩=> ?_
 ·cases hq:ftQ p ws (bkQ p L b) with
  |none=>
   have e0:lrD p ws (bkQ p L b)=.tup [.str "none",.lst<|(bkQ p L b).map enD]:=by unfold lrD;rw[hq]
   rw[e0];refine aF (fH (k:=false) (cV (d1:=.str "none") (d2:=.str "row") (cZ (n:=0) (ds:=[.str "none",.lst<|(bkQ p L b).map enD]) (pdv 7) bB rfl λ_ _=>rfl) dL rfl rfl rfl<|by decide+kernel) rfl<|cE ?_);exact key ([.str "none",.lst<|(bkQ p L b).map enD],b) ⟨zF _,λz=>absurd z (by show ¬ b<0;omega),λ_=>⟨bkQ p L b,L2.atI_last [.str "none"] _,O,hq⟩⟩
  |some e=>
   obtain⟨f1,f2,f3⟩:=aEf O hq;obtain⟨x1,x2,x3,x4,x5⟩:=O.ent e f1;have v0:=aDD hpr x1;have e0:lrD p ws (bkQ p L b)=.tup [.str "row",.tup<|bJ e.2.1,.lst<|((bkQ p L b).filter λx=>decide<|x.1<e.1).map enD]:=by unfold lrD;rw[hq]
   rw[e0];have F1:=FU.less x3;have O1:=aBH hp S F1;have F2:=FU.less (b':=e.1-1) (by omega);have O2:=aBH hp S F2
   have ef:((bkQ p L b).filter λx=>decide<|x.1<e.1)=bkQ p L (e.1-1):=by
    rw[aEc O O2<|by omega];refine uT λx _=> ?_
    by_cases h:x.1<e.1
    ·rw[decide_eq_true h,decide_eq_true<|by omega]
    ·rw[decide_eq_false h,decide_eq_false<|by omega]
   have s1:(ftQ p ws<|bkQ p L e.1).isNone=false:=by
    cases h:ftQ p ws (bkQ p L e.1) with
    |some _=>rfl
    |none=>have:=aDZ O1 h e.2.1 x1 (by omega);rw[<-x4,f2] at this;cases this
   have s2:=aFW (w:=ws) O O2 (by omega) λe' h'=>by rw[hq] at h';rw[<-cA.inj h'];omega
   have em:e.1-1+1=e.1:=by omega
   refine aF<|iT (k:=true) (cV (d1:=.str "row") (d2:=.str "row") (cZ (n:=0) (ds:=[.str "row",.tup<|bJ e.2.1,.lst<|((bkQ p L b).filter λx=>decide<|x.1<e.1).map enD]) (pdv 7) bB rfl λ_ _=>rfl) dL rfl rfl rfl<|by decide+kernel) rfl ?_;refine aF<|iB (d:=.int<|e.1-1) 8 (PEd.ic (gE pR (bM (ds:=[.lst<|L.map skD,.tup<|bJ e.2.1]) GP hr1 rfl (aC (pdv 2)<|aC (cZ (n:=1) (ds:=[.str "row",.tup<|bJ e.2.1,.lst<|((bkQ p L b).filter λx=>decide<|x.1<e.1).map enD]) (pdv 7) bB rfl λ_ _=>rfl) aO) ⟨L,e.2.1,x1,by omega,rfl,rfl⟩ trivial rfl) bB)<|by rw[<-x2]) ?_;refine aY (fH (k:=false) (mE (k:=true) (kP<|bM (ds:=[cF p,.lst<|L.map skD,.int e.1,.lst<|ws.map wsD,.lst<|(bkQ p L e.1).map enD,.bl false]) GI hr rfl (aC (pdv 1)<|aC (pdv 2) (aC (PEd.ic (gE gZ (pdv 8) bB) em)<|aC (pdv 6) (aC (PEd.val<|bM (ds:=[cF p,.lst<|L.map skD,.int e.1]) GO hr6 rfl (aC (pdv 1) (aC (pdv 2)<|aC (PEd.ic (gE gZ (pdv 8) bB) em) aO)) ⟨p,L,e.1,_,hp,S,KO.nd,F1,rfl,rfl⟩ trivial rfl)<|aC pX aO))) (fine O1 (by omega) W s1) trivial rfl)) rfl<|cE ?_);refine key ([.str "row",.tup<|bJ e.2.1,.lst<|((bkQ p L b).filter λx=>decide<|x.1<e.1).map enD],e.1-1) ⟨by show e.1-1<=b;omega,λz=> ?_,λz=>⟨bkQ p L<|e.1-1, ?_,O2,s2⟩⟩
   ·have z:e.1-1<0:=z
    have:(bkQ p L b).filter (λx=>decide<|x.1<e.1)=[]:=List.filter_eq_nil_iff.mpr λx hx=>by obtain⟨y1,y2,_⟩:=O.ent x hx;have:=aDD hpr y1;simp;omega
    show some (D.lst _)=_;rw[this];rfl
   ·show atI [_,_,D.lst _] (-1)=_;rw[ef];exact L2.atI_last [.str "row",.tup<|bJ e.2.1] _
 refine aBz (sd':=[.val<|.scr ns,.val<|cF p,.val (.lst<|L.map skD),.val<|.int fc,.val<|.int b,.val (.tup<|bJ own),.val (.lst<|ws.map wsD),.val<|.tup fds,.val<|.int m,.un,.un,.un,.un,.un,.un,.un]) (Le.refl _) ?_
 have ec:((((bT p).map bF).filter λ_=>true).map λd=>D.lst [d])=(plW p).map wsD:=by rw[cU.mpr λ_ _=>rfl,aR];unfold plW;rw[aR];rfl
 refine aF<|aHf (ds:=(bT p).map bF) 9 (N:=["_law_filling"]) (M:=nl42) (cap:=[none]) (sc:=bI sN) (Tb:=λd=>[.val d]) (λ_=>true) (λd=>D.lst [d]) rfl nd rfl rfl rfl (gH (PEd.val<|bM (ds:=[cF p]) GF hr1 rfl (aC (pdv 1) aO) ⟨p,hp,rfl,rfl⟩ trivial rfl)) (by rw[aA];omega) rfl (by decide+kernel) rfl (by decide+kernel) rfl (λcl C fp s H d hd=>dY 0<|pgn 0) (λd hd=>⟨.inl rfl,trivial⟩) (λcl C fp s H d hd=>.inl ⟨rfl,rfl⟩) (λcl C2 fp s H d hd _=>PEd.val (hG (ds:=[d]) (aC (pdv 0) aO)<|aG rfl)) λl9=>jY 9 rfl ?_;rw[ec];refine aF (fH (k:=false) (mE (k:=true) (kP<|bM (ds:=[cF p,.lst<|L.map skD,.int b,.lst<|(plW p).map wsD,.lst<|(bkQ p L b).map enD,.bl false]) GI hr rfl (aC (pdv 1)<|aC (pdv 2) (aC (pdv 4)<|aC (pdv 9) (aC (PEd.val<|bM (ds:=[cF p,.lst<|L.map skD,.int b]) GO hr6 rfl (aC (pdv 1) (aC (pdv 2)<|aC (pdv 4) aO)) ⟨p,L,b,_,hp,S,KO.nd,FU,rfl,rfl⟩ trivial rfl)<|aC pX aO))) (fine O b0 (aMZ hp)<|aHP O b0) trivial rfl)) rfl<|cE ?_);refine aF<|gG (k:=decide<|m<0) (nH zW (pdv 8) bB<|iI _) (λh=> ?_) λh=>cE ?_
 ·exact aY<|bL (PEd.cast (aDN (ra:=.val<|.lst []) (rb:=.val<|.lst []) (cZ (n:=2) (pdv 7) bB (q0<|of_decide_eq_true h) λ_ _=>rfl) (PEd.val (hG (ds:=[]) aO<|aG rfl)) trivial trivial (.inr ⟨rfl,rfl⟩) rfl rfl (aGN hu<|by decide)) rfl) trivial rfl
 have m0:0<=m:=by have:=of_decide_eq_false h;omega
 obtain⟨C,qa,OC,qn⟩:=q1 m0;have C4:=OC.len
 have Cp:0<C.length:=by obtain⟨e,he,_⟩:=OC.st m0;exact List.length_pos_of_mem he
 refine aF<|iB (d:=.lst<|C.map enD) 10 (aKD (i:= -1) (pdv 7) (aNy bB) qa λ_ _=>rfl) ?_;obtain⟨a1,a0⟩:=gX (ns.getD 24 0) Cp;have ai:(((ns.getD 24 0%(C.length:Int)).toNat:Nat):Int)=ns.getD 24 0%(C.length:Int):=by omega
 refine aF<|iB (d:=.int (((ns.getD 24 0%(C.length:Int)).toNat:Nat):Int)) 11 (PEd.ic (cT fM (cell 24 (by decide) rfl) (PEd.ic (mX rfl zlen (PEd.bor<|pdv 10))<|by rw[aA])<|by omega) ai.symm) ?_;generalize (ns.getD 24 0%(C.length:Int)).toNat=t at a1;clear ai a0;refine aBz (sd':=[.val<|.scr ns,.val<|cF p,.val (.lst<|L.map skD),.val<|.int fc,.val<|.int b,.val (.tup<|bJ own),.val (.lst<|ws.map wsD),.val<|.tup fds,.val<|.int m,.val (.lst<|(plW p).map wsD),.val (.lst<|C.map enD),.val<|.int (t:Int),.un,.un,.un,.un]) (Le.refl _) ?_;have cs:C.take t++C.drop t=C:=fU t C;have dr:C.drop t=C[t]::C.drop (t+1):=dJ a1;have ct:C=C.take t++C[t]::C.drop (t+1):=by rw[<-dr,cs]
 have em:C[t]∈C:=eJ a1;have eg:(C.map enD)[t]? =some (enD C[t]):=by rw[bA,eM a1];rfl
 generalize C[t]=e at ct em eg;obtain⟨x1,x2,x3,x4,x5⟩:=OC.ent e em;have lr:=aBh (f:=1) (pr:=prK L) e.2.1 λk hk=>S.pr k<|x1 k hk
 have b39:b<=39:=by
  have g2:∀n:Nat,n<5->([12,5,4,3,2]:List Nat).getD n 0<=12:=by decide+kernel
  have gm:oJ L.length<=12:=g2 _ (by have:=KO.pos;omega)
  rcases KO.f13 with rfl|rfl<;>omega
 have shC:=aIS OC;have hh:=aNL hp S<|ct▸OC;obtain⟨c1,c2⟩:=aPA C t;have lh:=congrArg oM ct;rw[aQ,bU] at lh;have tk:∀ {sd:List Slot}{p1 p2 p3 p4:Pos},sd[10]? =some (.val (.lst<|C.map enD))->sd[11]? =some (.val<|.int (t:Int))->PEd (nG CX0 P w K mg base nl42 "law" (bI sN) f cdv A outer s H E).nox sd (.Subscript (.Name "_law_book" p1) (.Slice none (some<|.Name "_law_at" p2) none p3) p4) (.own<|(C.take t).map enD):=λh1 h2=>PEd.cast (aIU (ol:=none) (oh:=some (t:Int)) (PEd.bor (kR 10 h1<|pv 10)) trivial (kR 11 h2<|pv 11)) (by rw[c1])
 have dp:∀ {sd:List Slot}{p1 p2 p3 p4 p5 p6:Pos}{j1:Nat},sd[10]? =some (.val (.lst<|C.map enD))->sd[11]? =some (.val<|.int (t:Int))->PEd (nG CX0 P w K mg base nl42 "law" (bI sN) f cdv A outer s H E).nox sd (.Subscript (.Name "_law_book" p1) (.Slice (some<|.BinOp (.Name "_law_at" p2) .Add (.Constant (.int 1) j1 p5) p6) none none p3) p4) (.own<|(C.drop<|t+1).map enD):=λh1 h2=>PEd.cast (aIU (ol:=some<|(t:Int)+1) (oh:=none) (PEd.bor (kR 10 h1<|pv 10)) (gE gZ (kR 11 h2<|pv 11) bB) trivial) (by rw[c2])
 have shA:∀ (As:List E0),As.length<=1->(∀x∈As,x.2.1.length<=300)->ShE (bk0 (C.take t)++As++bk0 (C.drop<|t+1)):=λAs h1 h2=>by
  refine⟨?_,λx hx=> ?_⟩
  ·unfold bk0;rw[aQ,aQ,aA,aA];omega
  ·have sub:∀y∈bk0 (C.take t)++bk0 (C.drop<|t+1),y∈bk0 C:=λy hy=>by
    unfold bk0 at hy ⊢
    rcases aU.mp hy with h|h
    ·obtain⟨z,hz,rfl⟩:=aE.mp h;exact aE.mpr ⟨z,iK hz,rfl⟩
    ·obtain⟨z,hz,rfl⟩:=aE.mp h;exact aE.mpr ⟨z,jO hz,rfl⟩
   rcases aU.mp hx with h|h
   ·rcases aU.mp h with h|h
    ·exact shC.rl x (sub x<|bN _ h)
    ·exact h2 x h
   ·exact shC.rl x (sub x<|aM _ h)
 have dA:∀ (As:List E0),(bk0 (C.take t)++As++bk0 (C.drop<|t+1)).map e0D=(C.take t).map enD++As.map e0D++(C.drop<|t+1).map enD:=λAs=>by rw[aJ,aJ,zX,zX]
 have hc0:hoE p L m (bk0 (C.take t)++[]++bk0 (C.drop<|t+1))=false:=by
  have e:bk0 (C.take t)++[]++bk0 (C.drop<|t+1)=bk0 (C.take t++C.drop (t+1)):=by unfold bk0;rw[cY,aJ]
  rw[e];exact hh
 have wl:((C.take t).map enD).length+((C.drop<|t+1).map enD).length<=900:=by rw[aA,aA];omega
 clear hh c1 c2 lh cs dr;refine aF (fH (k:=false) (mE (k:=true) (kP<|bM (ds:=[cF p,.lst<|L.map skD,.int m,.lst<|ws.map wsD,.lst<|C.map enD,.bl true]) GI hr rfl (aC (pdv 1)<|aC (pdv 2) (aC (pdv 8)<|aC (pdv 6) (aC (pdv 10)<|aC pX aO))) (fine OC m0 W<|by rw[qn];rfl) trivial rfl)) rfl<|cE ?_);refine aF (fH (k:=false) (mE (k:=true) (kP<|bM (ds:=[cF p,.lst<|L.map skD,.int m,.lst<|ws.map wsD,.lst ((C.take t).map enD++(C.drop<|t+1).map enD),.bl false]) GI hr rfl (aC (pdv 1)<|aC (pdv 2) (aC (pdv 8)<|aC (pdv 6) (aC (PEd.val (vK (PEd.bor (PEd.val<|tk rfl rfl)) (PEd.bor (PEd.val<|dp rfl rfl))<|by omega))<|aC pX aO))) (bad hc0 m0 (shA [] (by decide) λx hx=>(nomatch hx))<|by rw[dA];simp) trivial rfl)) rfl<|cE ?_);refine aF<|aEU (d:=enD e) (sd':=[.val<|.scr ns,.val<|cF p,.val (.lst<|L.map skD),.val<|.int fc,.val<|.int b,.val (.tup<|bJ own),.val (.lst<|ws.map wsD),.val<|.tup fds,.val<|.int m,.val (.lst<|(plW p).map wsD),.val (.lst<|C.map enD),.val<|.int (t:Int),.val<|.int e.1,.val (.tup<|bJ e.2.1),.val (.tup<|e.2.2.map bF),.un]) (kX (n:=t) (PEd.bor<|pdv 10) (pdv 11) eg λ_ _=>rfl) (kB (ds:=[.int e.1,.tup<|bJ e.2.1,.tup<|e.2.2.map bF]) (js:=[12,13,14]) rfl (dQ (pgn 12) (dQ (pgn 13)<|dQ (pgn 14) jX)) rfl rfl) ?_;have nI:∀i:Int,bF (inR e.2.1++[i])=.tup (bJ e.2.1++[.int i]):=λi=>by rw[vH];show D.tup _=_;rw[aJ];rfl
 have nJ:bF (inR e.2.1)=.tup (bJ e.2.1):=by rw[vH];rfl
 have ill:(inR e.2.1).length<=50:=by unfold DL.inR;rw[aA];omega
 have odd3:∀x∈[(e.1+1,inR e.2.1,e.2.2),(e.1,inR e.2.1++[(L.length:Int)],e.2.2),(e.1,inR e.2.1++[(0:Int)],e.2.2)],vdE p L m x=false/\x.2.1.length<=300:=λx hx=>by
  simp only[aW,gA,or_false] at hx
  rcases hx with rfl|rfl|rfl
  ·exact⟨aKX x2,by show(inR e.2.1).length<=300;omega⟩
  ·exact⟨aKQ,by show(inR e.2.1++[(L.length:Int)]).length<=300;rw[aQ];show _+1<=300;omega⟩
  ·exact⟨aJQ S x2,by show(inR e.2.1++[(0:Int)]).length<=300;rw[aQ];show _+1<=300;omega⟩
 have nl:(bJ e.2.1).length<=50:=by rw[nR];omega
 have lenK:∀ {sd:List Slot}{p1 p2 p3:Pos},sd[2]? =some (.val (.lst<|L.map skD))->PEd (nG CX0 P w K mg base nl42 "law" (bI sN) f cdv A outer s H E).nox sd (.Call (.Name "len" p1) [.Name "_law_kit_here" p2] [] p3) (.val<|.int (L.length:Int)):=λh=>PEd.ic (mX rfl zlen<|PEd.bor (kR 2 h<|pv 2)) (by rw[aA])
 have odds:([.tup [.int<|e.1+1,.tup<|bJ e.2.1,.tup<|e.2.2.map bF],.tup [.int e.1,.tup<|bJ e.2.1++[.int (L.length:Int)],.tup<|e.2.2.map bF],.tup [.int e.1,.tup<|bJ e.2.1++[.int 0],.tup<|e.2.2.map bF]]:List D)=[(e.1+1,inR e.2.1,e.2.2),(e.1,inR e.2.1++[(L.length:Int)],e.2.2),(e.1,inR e.2.1++[(0:Int)],e.2.2)].map e0D:=by show _=[D.tup [.int<|e.1+1,bF<|inR e.2.1,.tup<|e.2.2.map bF],.tup [.int e.1,bF<|inR e.2.1++[(L.length:Int)],.tup<|e.2.2.map bF],.tup [.int e.1,bF<|inR e.2.1++[(0:Int)],.tup<|e.2.2.map bF]];rw[nI,nI,nJ]
 refine aF<|gO (ds:=[(e.1+1,inR e.2.1,e.2.2),(e.1,inR e.2.1++[(L.length:Int)],e.2.2),(e.1,inR e.2.1++[(0:Int)],e.2.2)].map e0D) (λt' sd=>sd=[.val<|.scr ns,.val<|cF p,.val (.lst<|L.map skD),.val<|.int fc,.val<|.int b,.val (.tup<|bJ own),.val (.lst<|ws.map wsD),.val<|.tup fds,.val<|.int m,.val (.lst<|(plW p).map wsD),.val (.lst<|C.map enD),.val<|.int (t:Int),.val<|.int e.1,.val (.tup<|bJ e.2.1),.val (.tup<|e.2.2.map bF),.un]) (gH<|PEd.val (PEd.cast (hG (ds:=[.tup [.int<|e.1+1,.tup<|bJ e.2.1,.tup<|e.2.2.map bF],.tup [.int e.1,.tup<|bJ e.2.1++[.int (L.length:Int)],.tup<|e.2.2.map bF],.tup [.int e.1,.tup<|bJ e.2.1++[.int 0],.tup<|e.2.2.map bF]]) (aC (fY (ds:=[.int<|e.1+1,.tup<|bJ e.2.1,.tup<|e.2.2.map bF]) (aC (gE gZ (pdv 12) bB) (aC (pdv 13)<|aC (pdv 14) aO))<|aG rfl) (aC (fY (ds:=[.int e.1,.tup<|bJ e.2.1++[.int (L.length:Int)],.tup<|e.2.2.map bF]) (aC (pdv 12) (aC (lO (d1:=bJ e.2.1) (d2:=[.int (L.length:Int)]) (pdv 13) (fY (ds:=[.int (L.length:Int)]) (aC (lenK rfl) aO)<|aG rfl)<|by show _+1<=1000;omega)<|aC (pdv 14) aO))<|aG rfl)<|aC (fY (ds:=[.int e.1,.tup<|bJ e.2.1++[.int 0],.tup<|e.2.2.map bF]) (aC (pdv 12) (aC (lO (d1:=bJ e.2.1) (d2:=[.int 0]) (pdv 13) (fY (ds:=[.int 0]) (aC bB aO)<|aG rfl)<|by show _+1<=1000;omega)<|aC (pdv 14) aO))<|aG rfl) aO))<|aG rfl)<|by rw[odds])) ⟨_,Le.refl _,rfl⟩ (λt' d sdt hd ht=> ?_) λsdn hn=> ?_
 ·subst ht;obtain⟨x,hx,rfl,_⟩:=lR hd;obtain⟨v1,v2⟩:=odd3 x<|bD hx;clear hd hx odd3 odds;refine⟨[.val<|.scr ns,.val<|cF p,.val (.lst<|L.map skD),.val<|.int fc,.val<|.int b,.val (.tup<|bJ own),.val (.lst<|ws.map wsD),.val<|.tup fds,.val<|.int m,.val (.lst<|(plW p).map wsD),.val (.lst<|C.map enD),.val<|.int (t:Int),.val<|.int e.1,.val (.tup<|bJ e.2.1),.val (.tup<|e.2.2.map bF),.val<|e0D x],dY 15<|pgn 15, ?_⟩;refine aY (fH (k:=false) (mE (k:=true) (kP<|bM (ds:=[cF p,.lst<|L.map skD,.int m,.lst<|ws.map wsD,.lst ((C.take t).map enD++[e0D x]++(C.drop<|t+1).map enD),.bl false]) GI hr rfl (aC (pdv 1)<|aC (pdv 2) (aC (pdv 8)<|aC (pdv 6) (aC (PEd.val (vK (PEd.bor<|PEd.val (vK (PEd.bor (PEd.val<|tk rfl rfl)) (PEd.bor<|PEd.val (hG (ds:=[e0D x]) (aC (pdv 15) aO)<|aG rfl))<|by show _+1<=1000;omega)) (PEd.bor (PEd.val<|dp rfl rfl))<|by rw[aQ];show _+1+_<=1000;omega))<|aC pX aO))) (bad (aOd (x:=x) (by simp) v1) m0 (shA [x] (by show 1<=1;decide) λy hy=>by rw[aN.mp hy];exact v2)<|dA [x]) trivial rfl)) rfl<|cE ?_);exact⟨[.val<|.scr ns,.val<|cF p,.val (.lst<|L.map skD),.val<|.int fc,.val<|.int b,.val (.tup<|bJ own),.val (.lst<|ws.map wsD),.val<|.tup fds,.val<|.int m,.val (.lst<|(plW p).map wsD),.val (.lst<|C.map enD),.val<|.int (t:Int),.val<|.int e.1,.val (.tup<|bJ e.2.1),.val (.tup<|e.2.2.map bF),.un],⟨.inr rfl,.inr rfl,.inr rfl,.inr rfl,.inr rfl,.inr rfl,.inr rfl,.inr rfl,.inr rfl,.inr rfl,.inr rfl,.inr rfl,.inr rfl,.inr rfl,.inr rfl,.inl rfl,trivial⟩,rfl⟩
 ·subst hn
  have hd2:hoE p L m (bk0 C++bk0 [e])=false:=aNc λz=>by unfold bk0 at z;rw[aJ,aR,aR] at z;exact(bK.mp z).2.2 _ (aE.mpr ⟨e,em,rfl⟩) _ (aE.mpr ⟨e,cR e,rfl⟩) rfl
  have sh2:ShE (bk0 C++bk0 [e]):=⟨by
   rw[aQ];unfold bk0;rw[aA];show _+1<=600;omega,λx hx=>by
   rcases aU.mp hx with h|h
   ·exact shC.rl x h
   ·rw[aN.mp h];show(inR e.2.1).length<=300
    omega⟩
  exact aY<|bL (bM (ds:=[cF p,.lst<|L.map skD,.int m,.lst<|ws.map wsD,.lst<|C.map enD++[enD e],.bl false]) GI hr rfl (aC (pdv 1)<|aC (pdv 2) (aC (pdv 8)<|aC (pdv 6) (aC (PEd.val (vK (PEd.bor<|pdv 10) (PEd.bor<|PEd.val (hG (ds:=[enD e]) (aC (kX (n:=t) (PEd.bor<|pdv 10) (pdv 11) eg λ_ _=>rfl) aO)<|aG rfl))<|by rw[aA];show _+1<=1000;omega))<|aC pX aO))) (bad hd2 m0 sh2<|by rw[aJ,zX,zX];rfl) trivial rfl) trivial rfl
theorem aBn{t1 t2 t3:Tok}:Vals [V.str "not",V.str "up",V.str "down"] (#[Value.str "not" t1,Value.str "up" t2,Value.str "down" t3]:Array BH).toList:=.cons ⟨_,rfl⟩ (.cons ⟨_,rfl⟩<|.cons ⟨_,rfl⟩ .nil)
theorem all_mk{h:BL}{fa:BJ}(X:K.In h)(G:h.Ns AO mg)(hfa:mg "law"=some (.ref fa))
  {odL anL:Option BJ}{slL:Array (Option BH)}{ocL kVL dcL pmL cdL ctL:BH}{fL:BJ}{fBY:BJ}{dB:Option BJ}{t1 t2 t3:Tok}{nB:Nat}{sB:Array (Option BH)}{tmst:Tok}
  (aL:dX K AO "law"=some (some<|.ref fL)) (lL:K.lookup fL=some ⟨ocL,odL,.func<|gC "law" "law" (kU sN) (iG sN) (bI sN) .none kVL dcL pmL anL cdL ctL,slL⟩) (cL:lA K cdL "law"=true) (kL:eG K (.ref fL)=true) (nisinstance:dX K AO "isinstance"=some none) (nint:dX K AO "int"=some none) (nbool:dX K AO "bool"=some none) (nrange:dX K AO "range"=some none) (ntuple:dX K AO "tuple"=some none) (nenumerate:dX K AO "enumerate"=some none) (nlen:dX K AO "len"=some none) (nmin:dX K AO "min"=some none) (nlist:dX K AO "list"=some none) (nsorted:dX K AO "sorted"=some none) (nall:dX K AO "all"=some none) (nsum:dX K AO "sum"=some none) (nany:dX K AO "any"=some none) (nset:dX K AO "set"=some none) (aBY:dX K AO "BY_ITSELF"=some (some<|.ref fBY)) (lBY:K.lookup fBY=some ⟨.type "tuple",dB,.seq #[.str "not" t1,.str "up" t2,.str "down" t3] nB,sB⟩) (amst:dX K AO "MOST_TABLES"=some (some<|.int 500 tmst)) (hWl:FI K mg "is_whole" aJf) (hC:FI K mg "word_count" aIk) (hEa:FI K mg "with_each_word" aDx) (hFi:FI K mg "fillings" aMx) (hNu:FI K mg "number_of" aQN) (hI:FI K mg "word_by_itself" aEM) (hA:FI K mg "word_by_another" aBQ) (hN:FI K mg "new_word" aBR) (hB:FI K mg "written_box" aCt) (hS:FI K mg "step_on" aDX) (hNo:FI K mg "numbers_of_step" aOJ) (hMo:FI K mg "moves_of" aDG) (hNb:FI K mg "numbers_behind" aJE) (hPu:FI K mg "put_longer_rows" aOP) (hFo:FI K mg "found_rows" sFd) (hTf:FI K mg "table_from" aDK) (hBk:FI K mg "book_of" aJP) (hNr:FI K mg "numbers_of_row" aMG) (hIr:FI K mg "is_row" aBd) (hP:FI K mg "price_of" aDE) (hIp:FI K mg "is_priced_row" aMi) (hPb:FI K mg "prices_by_numbers" aOq) (hSd:FI K mg "stands_there" aOI) (hSa:FI K mg "has_start" aBE) (hCl:FI K mg "is_closed" aOR) (hHo:FI K mg "holds" aDO) (hMs:FI K mg "misses_at" aJC) (hDo:FI K mg "does_wish" aLY) (hFt:FI K mg "first_that_does" sFt) (hLr:FI K mg "least_row" sLr) (hSh:FI K mg "shows_none" aME) (hCa:FI K mg "_law_cell_at" aEt) (hMi:FI K mg "_law_mixed" aJd) (hF:FI K mg "_law_fillings" aDA) (hLw:FI K mg "_law_word" aIA) (hAf:FI K mg "_law_after" aQl) (hDr:FI K mg "_law_drawn" aDU) (hLm:FI K mg "_law_moves" aOQ) (hZ:FI K mg "_law_size" aMb) (hK:FI K mg "_law_kit" aJt) (hBd:FI K mg "_law_bound" aQI) (hLp:FI K mg "_law_price" aOW) (hTb:FI K mg "_law_table" aOv) (hRo:FI K mg "_law_row" aOO) (hSo:FI K mg "_law_some" aGL) (hWh:FI K mg "_law_wish" aMy) (hRi:FI K mg "_law_right" sRi):
  ∃fd:AW,(∀ (s:BI) (v:BH),BindsTo s fd ⟨[v],[]⟩ [("_law_script",v)])/\∀base:BL,K.In base->base.Ns AO mg->FnOk P w K mg base CX0 9 fa fd ["_law_script"] (spC K 1 aGO):=by
 have e:=hfa.symm.trans<|rA X G aL;cases e;have zisinstance:=cW X G nisinstance;have zint:=cW X G nint;have zbool:=cW X G nbool;have zrange:=cW X G nrange;have ztuple:=cW X G ntuple;have zenumerate:=cW X G nenumerate;have zlen:=cW X G nlen;have zmin:=cW X G nmin;have zlist:=cW X G nlist;have zsorted:=cW X G nsorted;have zall:=cW X G nall;have zsum:=cW X G nsum;have zany:=cW X G nany;have zset:=cW X G nset;have byself:∃ad,mg "BY_ITSELF"=some (.ref ad)/\∀H:Hp,SqT K H ad [V.str "not",V.str "up",V.str "down"]:=⟨_,rA X G aBY,λH=>.inr ⟨_,_,_,lBY,rfl,rfl,aG rfl,aBn⟩⟩;have mst:∃t,mg "MOST_TABLES"=some (.int 500 t):=⟨_,rA X G amst⟩;obtain⟨fWl,dWl,mWl,FWl⟩:=hWl;obtain⟨fC,dC,mC,FC⟩:=hC;obtain⟨fEa,dEa,mEa,FEa⟩:=hEa;obtain⟨fFi,dFi,mFi,FFi⟩:=hFi;obtain⟨fNu,dNu,mNu,FNu⟩:=hNu;obtain⟨fI,dI,mI,FI⟩:=hI;obtain⟨fA,dA,mA,FA⟩:=hA;obtain⟨fN,dN,mN,FN⟩:=hN;obtain⟨fB,dB,mB,FB⟩:=hB;obtain⟨fS,dS,mS,FS⟩:=hS;obtain⟨fNo,dNo,mNo,FNo⟩:=hNo;obtain⟨fMo,dMo,mMo,FMo⟩:=hMo;obtain⟨fNb,dNb,mNb,FNb⟩:=hNb;obtain⟨fPu,dPu,mPu,FPu⟩:=hPu;obtain⟨fFo,dFo,mFo,FFo⟩:=hFo;obtain⟨fTf,dTf,mTf,FTf⟩:=hTf;obtain⟨fBk,dBk,mBk,FBk⟩:=hBk;obtain⟨fNr,dNr,mNr,FNr⟩:=hNr;obtain⟨fIr,dIr,mIr,FIr⟩:=hIr;obtain⟨fP,dP,mP,FP⟩:=hP;obtain⟨fIp,dIp,mIp,FIp⟩:=hIp;obtain⟨fPb,dPb,mPb,FPb⟩:=hPb;obtain⟨fSd,dSd,mSd,FSd⟩:=hSd;obtain⟨fSa,dSa,mSa,FSa⟩:=hSa;obtain⟨fCl,dCl,mCl,FCl⟩:=hCl;obtain⟨fHo,dHo,mHo,FHo⟩:=hHo;obtain⟨fMs,dMs,mMs,FMs⟩:=hMs;obtain⟨fDo,dDo,mDo,FDo⟩:=hDo;obtain⟨fFt,dFt,mFt,FFt⟩:=hFt;obtain⟨fLr,dLr,mLr,FLr⟩:=hLr;obtain⟨fSh,dSh,mSh,FSh⟩:=hSh;obtain⟨fCa,dCa,mCa,FCa⟩:=hCa;obtain⟨fMi,dMi,mMi,FMi⟩:=hMi;obtain⟨fF,dF,mF,FF⟩:=hF;obtain⟨fLw,dLw,mLw,FLw⟩:=hLw;obtain⟨fAf,dAf,mAf,FAf⟩:=hAf;obtain⟨fDr,dDr,mDr,FDr⟩:=hDr;obtain⟨fLm,dLm,mLm,FLm⟩:=hLm;obtain⟨fZ,dZ,mZ,FZ⟩:=hZ;obtain⟨fK,dK,mK,FK⟩:=hK;obtain⟨fBd,dBd,mBd,FBd⟩:=hBd;obtain⟨fLp,dLp,mLp,FLp⟩:=hLp;obtain⟨fTb,dTb,mTb,FTb⟩:=hTb;obtain⟨fRo,dRo,mRo,FRo⟩:=hRo;obtain⟨fSo,dSo,mSo,FSo⟩:=hSo;obtain⟨fWh,dWh,mWh,FWh⟩:=hWh;obtain⟨fRi,dRi,mRi,FRi⟩:=hRi;have FL:=aID (st:=sN) lL cL kL;refine⟨gC "law" "law" (kU sN) (iG sN) (bI sN) .none kVL dcL pmL anL cdL ctL,λs v=>.of_eq rfl,λbase _ _=> ?_⟩;have GWl:=aHG (P:=P) (w:=w) (base:=base) FWl zisinstance zint zbool mWl ;have GC:=aHb (P:=P) (w:=w) (base:=base) FC zrange mC ;have GEa:=aLo (P:=P) (w:=w) (base:=base) FEa zrange mEa ;have GFi:=aKC (P:=P) (w:=w) (base:=base) FFi zrange mFi GC GEa;have GNu:=aNo (P:=P) (w:=w) (base:=base) FNu mNu GC;have GI:=aFi (P:=P) (w:=w) (base:=base) FI mI ;have GA:=aCJ (P:=P) (w:=w) (base:=base) FA mA ;have GN:=aCE (P:=P) (w:=w) (base:=base) FN byself mN GC GI GA;have GB:=aCY (P:=P) (w:=w) (base:=base) FB mB ;have GS:=aGd (P:=P) (w:=w) (base:=base) FS mS GB GN;have GNo:=aHo (P:=P) (w:=w) (base:=base) FNo ztuple mNo GNu GS GFi;have GMo:=aCZ (P:=P) (w:=w) (base:=base) FMo mMo GNo;have GNb:=aFq (P:=P) (w:=w) (base:=base) FNb ztuple mNb ;have GPu:=aHx (P:=P) (w:=w) (base:=base) FPu zenumerate mPu GNb;have GFo:=aCW (P:=P) (w:=w) (base:=base) FFo zlen zmin zlist zsorted mst mFo GPu;have GTf:=aCK (P:=P) (w:=w) (base:=base) FTf ztuple mTf ;have GBk:=aFp (P:=P) (w:=w) (base:=base) FBk zlen zrange ztuple mBk GFi GMo GFo GTf;have GNr:=aFN (P:=P) (w:=w) (base:=base) FNr mNr GNb;have GIr:=aCR (P:=P) (w:=w) (base:=base) FIr zall zlen mIr GWl;have GP:=aHs (P:=P) (w:=w) (base:=base) FP zsum mP ;have GIp:=aGh (P:=P) (w:=w) (base:=base) FIp mIp GIr GP;have GPb:=aHW (P:=P) (w:=w) (base:=base) FPb zlen zrange ztuple mPb GFi GIp GNr GTf;have GSd:=aBp (P:=P) (w:=w) (base:=base) FSd mSd ;have GSa:=aDd (P:=P) (w:=w) (base:=base) FSa zany mSa ;have GCl:=aBi (P:=P) (w:=w) (base:=base) FCl mCl GNb GSd;have GHo:=aDk (P:=P) (w:=w) (base:=base) FHo mHo GMo GPb GSa GCl;have GMs:=aFz (P:=P) (w:=w) (base:=base) FMs zenumerate mMs GFi;have GDo:=aLm (P:=P) (w:=w) (base:=base) FDo mDo GMs;have GFt:=aLl (P:=P) (w:=w) (base:=base) FFt mFt GDo;have GLr:=aKZ (P:=P) (w:=w) (base:=base) FLr mLr GBk GFt;have GSh:=aFs (P:=P) (w:=w) (base:=base) FSh mSh GHo GFt;have GCa:=aFn (P:=P) (w:=w) (base:=base) FCa zlen mCa ;have GMi:=aHh (P:=P) (w:=w) (base:=base) FMi mMi ;have GF:=aCX (P:=P) (w:=w) (base:=base) FF zrange mF ;have GLw:=aLh (P:=P) (w:=w) (base:=base) FLw mLw ;have GAf:=aGT (P:=P) (w:=w) (base:=base) FAf mAf GLw;have GDr:=aLc (P:=P) (w:=w) (base:=base) FDr mDr GMi;have GLm:=aGU (P:=P) (w:=w) (base:=base) FLm mLm GF GAf;have GZ:=aFt (P:=P) (w:=w) (base:=base) FZ mZ GMi;have GK:=aHM (P:=P) (w:=w) (base:=base) FK zrange zint mK GCa GMi GDr;have GBd:=aGZ (P:=P) (w:=w) (base:=base) FBd zlen mBd ;have GLp:=aHI (P:=P) (w:=w) (base:=base) FLp zsum mLp ;have GTb:=aHe (P:=P) (w:=w) (base:=base) FTb ztuple mTb GF;have GRo:=aHc (P:=P) (w:=w) (base:=base) FRo zlen mRo GLp;have GSo:=aFK (P:=P) (w:=w) (base:=base) FSo zsorted zset mSo GF;have GWh:=aFr (P:=P) (w:=w) (base:=base) FWh zlen zrange mWh GCa GMi GSo;have GRi:=aCN (P:=P) (w:=w) (base:=base) FRi zlist zisinstance zbool mRi GSh;exact aNH FL zlen GCa GZ GK GBd GLm GRo GTb GWh GF GLp GBk GLr GRi
end K52
open PySem PySem.W PyProof.Rows
namespace PySem.W.Fast
theorem tw10022943669578824608:True:=trivial
theorem tw1073333014961670344:True:=trivial
theorem tw10875284429877172853:True:=trivial
theorem tw11150290657369002719:True:=trivial
theorem tw11219866655814292554:True:=trivial
theorem tw11483648260044976541:True:=trivial
theorem tw11508772805483668924:True:=trivial
theorem tw11906514045490874151:True:=trivial
theorem tw11917866610108622580:True:=trivial
theorem tw1217920551824601368:True:=trivial
theorem tw1225347758994160395:True:=trivial
theorem tw13027299535219563026:True:=trivial
theorem tw13287188509727108664:True:=trivial
theorem tw13640652866385625780:True:=trivial
theorem tw13906710480674113417:True:=trivial
theorem tw14180212281339321871:True:=trivial
theorem tw14363647412774605404:True:=trivial
theorem tw14519730206363988757:True:=trivial
theorem tw14675454395404209225:True:=trivial
theorem tw14759946146726607897:True:=trivial
theorem tw14824505661656460500:True:=trivial
theorem tw15081297915384519653:True:=trivial
theorem tw15186681891779878888:True:=trivial
theorem tw15281284932776215855:True:=trivial
theorem tw15321224629850656376:True:=trivial
theorem tw16052263472556296646:True:=trivial
theorem tw16126675603996595895:True:=trivial
theorem tw16333147780648504879:True:=trivial
theorem tw16406879657438339895:True:=trivial
theorem tw16461743832828436455:True:=trivial
theorem tw16861655384992651314:True:=trivial
theorem tw16868523442393229055:True:=trivial
theorem tw16919503611077275271:True:=trivial
theorem tw17419057646528200991:True:=trivial
theorem tw17464079104512954024:True:=trivial
theorem tw17979730144661279098:True:=trivial
theorem tw1834845364891982364:True:=trivial
theorem tw18373772425031831443:True:=trivial
theorem tw1947238452917537011:True:=trivial
theorem tw2080612154273499356:True:=trivial
theorem tw218905096438368945:True:=trivial
theorem tw2193224923035406735:True:=trivial
theorem tw2286159642468279220:True:=trivial
theorem tw2397573127382675849:True:=trivial
theorem tw3708831244619490111:True:=trivial
theorem tw3823892337278245211:True:=trivial
theorem tw3891229900284007821:True:=trivial
theorem tw3965439203796134760:True:=trivial
theorem tw4376493645578486739:True:=trivial
theorem tw5172085005783126478:True:=trivial
theorem tw5237754224966830996:True:=trivial
theorem tw5415037525874356113:True:=trivial
theorem tw5648752711573106553:True:=trivial
theorem tw5801700198342413473:True:=trivial
theorem tw5991936236387797615:True:=trivial
theorem tw6646403880865193230:True:=trivial
theorem tw708184872040780064:True:=trivial
theorem tw7110737517309543800:True:=trivial
theorem tw742969935396341559:True:=trivial
theorem tw750398881340087471:True:=trivial
theorem tw8048034803873685156:True:=trivial
theorem tw8115621956727851462:True:=trivial
theorem tw833101046472181323:True:=trivial
theorem tw8429130448051660059:True:=trivial
theorem tw8491432549342109491:True:=trivial
theorem tw9199435455890904766:True:=trivial
theorem tw9290883717296125876:True:=trivial
end PySem.W.Fast
set_option maxRecDepth 100000 in
set_option maxHeartbeats 0 in
theorem PySem.Challenge.cw_leastrow_k52_what_shows_none_holds : PySem.Challenge.rw_leastrow_k52_what_shows_none.Holds := by
 w_on;o_law;k_head;(case hw=>w_witness2)
 k_fill
 refine DL.walkDB (l:=PySem.Challenge.rw_leastrow_k52_what_shows_none) (k:=9) (x:="_law_script") rfl rfl ⟨rfl,by decide,by decide,rfl⟩ (λw h Y=>PySem.W.kIn_of Y) ?F
 case F=>
  intro w mg fa h KX G hmg;refine' K52.all_mk KX G hmg ?aL ?lL ?cL ?kL ?nisinstance ?nint ?nbool ?nrange ?ntuple ?nenumerate ?nlen ?nmin ?nlist ?nsorted ?nall ?nsum ?nany ?nset ?aBY ?lBY ?amst (DL.FI.mk KX G ?a0 ?l0 ?c0 ?k0) (DL.FI.mk KX G ?a1 ?l1 ?c1 ?k1) (DL.FI.mk KX G ?a2 ?l2 ?c2 ?k2) (DL.FI.mk KX G ?a3 ?l3 ?c3 ?k3) (DL.FI.mk KX G ?a4 ?l4 ?c4 ?k4) (DL.FI.mk KX G ?a5 ?l5 ?c5 ?k5) (DL.FI.mk KX G ?a6 ?l6 ?c6 ?k6) (DL.FI.mk KX G ?a7 ?l7 ?c7 ?k7) (DL.FI.mk KX G ?a8 ?l8 ?c8 ?k8) (DL.FI.mk KX G ?a9 ?l9 ?c9 ?k9) (DL.FI.mk KX G ?a10 ?l10 ?c10 ?k10) (DL.FI.mk KX G ?a11 ?l11 ?c11 ?k11) (DL.FI.mk KX G ?a12 ?l12 ?c12 ?k12) (DL.FI.mk KX G ?a13 ?l13 ?c13 ?k13) (DL.FI.mk KX G ?a14 ?l14 ?c14 ?k14) (DL.FI.mk KX G ?a15 ?l15 ?c15 ?k15) (DL.FI.mk KX G ?a16 ?l16 ?c16 ?k16) (DL.FI.mk KX G ?a17 ?l17 ?c17 ?k17) (DL.FI.mk KX G ?a18 ?l18 ?c18 ?k18) (DL.FI.mk KX G ?a19 ?l19 ?c19 ?k19) (DL.FI.mk KX G ?a20 ?l20 ?c20 ?k20) (DL.FI.mk KX G ?a21 ?l21 ?c21 ?k21) (DL.FI.mk KX G ?a22 ?l22 ?c22 ?k22) (DL.FI.mk KX G ?a23 ?l23 ?c23 ?k23) (DL.FI.mk KX G ?a24 ?l24 ?c24 ?k24) (DL.FI.mk KX G ?a25 ?l25 ?c25 ?k25) (DL.FI.mk KX G ?a26 ?l26 ?c26 ?k26) (DL.FI.mk KX G ?a27 ?l27 ?c27 ?k27) (DL.FI.mk KX G ?a28 ?l28 ?c28 ?k28) (DL.FI.mk KX G ?a29 ?l29 ?c29 ?k29) (DL.FI.mk KX G ?a30 ?l30 ?c30 ?k30) (DL.FI.mk KX G ?a31 ?l31 ?c31 ?k31) (DL.FI.mk KX G ?a32 ?l32 ?c32 ?k32) (DL.FI.mk KX G ?a33 ?l33 ?c33 ?k33) (DL.FI.mk KX G ?a34 ?l34 ?c34 ?k34) (DL.FI.mk KX G ?a35 ?l35 ?c35 ?k35) (DL.FI.mk KX G ?a36 ?l36 ?c36 ?k36) (DL.FI.mk KX G ?a37 ?l37 ?c37 ?k37) (DL.FI.mk KX G ?a38 ?l38 ?c38 ?k38) (DL.FI.mk KX G ?a39 ?l39 ?c39 ?k39) (DL.FI.mk KX G ?a40 ?l40 ?c40 ?k40) (DL.FI.mk KX G ?a41 ?l41 ?c41 ?k41) (DL.FI.mk KX G ?a42 ?l42 ?c42 ?k42) (DL.FI.mk KX G ?a43 ?l43 ?c43 ?k43) (DL.FI.mk KX G ?a44 ?l44 ?c44 ?k44) (DL.FI.mk KX G ?a45 ?l45 ?c45 ?k45) (DL.FI.mk KX G ?a46 ?l46 ?c46 ?k46)
  (case aL=>k_is);(case lL=>k_is);(case cL=>k_is);(case kL=>k_is);(case nisinstance=>k_is);(case nint=>k_is);(case nbool=>k_is);(case nrange=>k_is);(case ntuple=>k_is);(case nenumerate=>k_is);(case nlen=>k_is);(case nmin=>k_is);(case nlist=>k_is);(case nsorted=>k_is);(case nall=>k_is);(case nsum=>k_is);(case nany=>k_is);(case nset=>k_is);(case aBY=>k_is);(case lBY=>k_is);(case amst=>k_is);(case a0=>k_is);(case l0=>k_is);(case c0=>k_is);(case k0=>k_is);(case a1=>k_is);(case l1=>k_is);(case c1=>k_is);(case k1=>k_is);(case a2=>k_is);(case l2=>k_is);(case c2=>k_is);(case k2=>k_is);(case a3=>k_is);(case l3=>k_is);(case c3=>k_is);(case k3=>k_is);(case a4=>k_is);(case l4=>k_is);(case c4=>k_is);(case k4=>k_is);(case a5=>k_is);(case l5=>k_is);(case c5=>k_is);(case k5=>k_is);(case a6=>k_is);(case l6=>k_is);(case c6=>k_is);(case k6=>k_is);(case a7=>k_is);(case l7=>k_is);(case c7=>k_is);(case k7=>k_is);(case a8=>k_is);(case l8=>k_is);(case c8=>k_is);(case k8=>k_is);(case a9=>k_is);(case l9=>k_is);(case c9=>k_is);(case k9=>k_is);(case a10=>k_is);(case l10=>k_is);(case c10=>k_is);(case k10=>k_is);(case a11=>k_is);(case l11=>k_is);(case c11=>k_is);(case k11=>k_is);(case a12=>k_is);(case l12=>k_is);(case c12=>k_is);(case k12=>k_is);(case a13=>k_is);(case l13=>k_is);(case c13=>k_is);(case k13=>k_is);(case a14=>k_is);(case l14=>k_is);(case c14=>k_is);(case k14=>k_is);(case a15=>k_is);(case l15=>k_is);(case c15=>k_is);(case k15=>k_is);(case a16=>k_is);(case l16=>k_is);(case c16=>k_is);(case k16=>k_is);(case a17=>k_is);(case l17=>k_is);(case c17=>k_is);(case k17=>k_is);(case a18=>k_is);(case l18=>k_is);(case c18=>k_is);(case k18=>k_is);(case a19=>k_is);(case l19=>k_is);(case c19=>k_is);(case k19=>k_is);(case a20=>k_is);(case l20=>k_is);(case c20=>k_is);(case k20=>k_is);(case a21=>k_is);(case l21=>k_is);(case c21=>k_is);(case k21=>k_is);(case a22=>k_is);(case l22=>k_is);(case c22=>k_is);(case k22=>k_is);(case a23=>k_is);(case l23=>k_is);(case c23=>k_is);(case k23=>k_is);(case a24=>k_is);(case l24=>k_is);(case c24=>k_is);(case k24=>k_is);(case a25=>k_is);(case l25=>k_is);(case c25=>k_is);(case k25=>k_is);(case a26=>k_is);(case l26=>k_is);(case c26=>k_is);(case k26=>k_is);(case a27=>k_is);(case l27=>k_is);(case c27=>k_is);(case k27=>k_is);(case a28=>k_is);(case l28=>k_is);(case c28=>k_is);(case k28=>k_is);(case a29=>k_is);(case l29=>k_is);(case c29=>k_is);(case k29=>k_is);(case a30=>k_is);(case l30=>k_is);(case c30=>k_is);(case k30=>k_is);(case a31=>k_is);(case l31=>k_is);(case c31=>k_is);(case k31=>k_is);(case a32=>k_is);(case l32=>k_is);(case c32=>k_is);(case k32=>k_is);(case a33=>k_is);(case l33=>k_is);(case c33=>k_is);(case k33=>k_is);(case a34=>k_is);(case l34=>k_is);(case c34=>k_is);(case k34=>k_is);(case a35=>k_is);(case l35=>k_is);(case c35=>k_is);(case k35=>k_is);(case a36=>k_is);(case l36=>k_is);(case c36=>k_is);(case k36=>k_is);(case a37=>k_is);(case l37=>k_is);(case c37=>k_is);(case k37=>k_is);(case a38=>k_is);(case l38=>k_is);(case c38=>k_is);(case k38=>k_is);(case a39=>k_is);(case l39=>k_is);(case c39=>k_is);(case k39=>k_is);(case a40=>k_is);(case l40=>k_is);(case c40=>k_is);(case k40=>k_is);(case a41=>k_is);(case l41=>k_is);(case c41=>k_is);(case k41=>k_is);(case a42=>k_is);(case l42=>k_is);(case c42=>k_is);(case k42=>k_is);(case a43=>k_is);(case l43=>k_is);(case c43=>k_is);(case k43=>k_is);(case a44=>k_is);(case l44=>k_is);(case c44=>k_is);(case k44=>k_is);(case a45=>k_is);(case l45=>k_is);(case c45=>k_is);(case k45=>k_is);(case a46=>k_is);(case l46=>k_is);(case c46=>k_is);(case k46=>k_is)
