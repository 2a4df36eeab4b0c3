import PyProof.Rows.All
import Wide.All
import OpenK.AllK
import Wide.FinOn
import Lean
import PyProof.EqAt
import PyProof.EqKinds
import PyProof.TupleCall
import PySem.Challenge.RW_leastrow_k42_books_too_great
set_option Elab.async false
set_option linter.all false
set_option maxRecDepth 100000
open PySem renaming wpAny_bind→AA,wpAny_pure→AB,starEach→AC,Program→AF,model→AH,wpAny→AK,sizeLine→AL,World→AM,tupleKind→AN,mainGlobals→AO,cLine→AQ,wpAny_newObj_type→AT,sysModules→AU,swapsWith→AV,wpAny_mono→AW,FuncData→AX,argBest→AZ,wpAny_Call_Name_kw→Aa,behindInMarks→Ab,bootBuiltins→Ac,compareOp→Ad,backTo→Ae,wpAny_holding→Ag,binaryOp→Ah,wpAny_typeNameOfWhole_keyiter→Ai,wpAny_dictEntries→Aj,wpAny_call_entry→Ak,tupleKind_room_in1→Al,wpAny_passesOwn→Am,wpAny_truthy_bool→An,foldedSetIterable→Ao,sizeLine_eq→Ap,wpAny_callSpecial?_slot→Ar,wpAny_rule→At,size_of_entries→Av,codeAny_builtin→Aw,wpAny_notOrdered_dict→Ax,codeAny_mono→Az,wpAny_forIn_list→BA,wpAny_specialOf→BB,wpAny_ite_split→BC
open PyProof.Rows renaming pendingOf→AD,wpS_bind→AE,Keyed→AG,wpS_pure→AI,arrOf→AJ,wpS_forRange→AS,wpS_mono→AY,seqObj→Af,SortKind→Aq,envOfC→As,wpS_modify→Au,setPending→Ay
open Inhabited renaming default→AR
open PySem.W renaming Frag→aA,kitOne→bP,fnOf→dI,kia_one→dO,keepIn→eO,nsIn→fC,mg_of→fF,findIn→gA,kitAny→gB,codeIn→iV,excIn→kN,callWith_K→oK,methodObj→qE,instObj→rV,lookIn→uR,exmOne→uS,cellsFrom_some→yP
open List renaming length_map→aB,mem_cons_of_mem→aC,mem_singleton→aD,mem_cons_self→aE,getElem?_eq_some_iff→aF,mem_append_right→aH,mem_append→aK,length_append→aM,mem_of_getElem?→aN,mem_cons→aR,mem_append_left→aS,map_append→aU,map_cons→aV,mem_map→aX,nodup_append→aY,nodup_cons→bA,getElem?_map→bB,size_toArray→bC,map_map→bH,mem_singleton_self→bI,length_cons→bL,range→bQ,append_nil→bZ,map_congr_left→cA,eq_nil_of_length_eq_zero→cD,extract_eq_take_drop→cF,nodup_nil→cH,getElem?_append_left→cK,length_take→cO,getD→cP,eraseIdx_eq_take_drop_succ→cR,getElem?_append_right→cV,mem_flatMap→cW,getElem?_of_mem→cZ,zip_cons_cons→dA,filter_eq_self→dH,map_nil→dJ,append_assoc→dL,lookup_cons→dQ,mem_range→dU,getElem?_eq_getElem→dW,getElem_map→eA,drop_eq_getElem_cons→eF,eraseIdx_sublist→eG,not_mem_nil→eJ,replicate→eW,take_add_one→eX,length_range→eY,length_nil→eZ,dropLast_concat_getLast→fA,filterMap_cons→fD,getElem_of_mem→fE,getElem?_set_self→fH,getElem_inj→fI,take_length→fJ,mem_filter→fR,find?_cons→fS,all_eq_true→gC,getElem?_eq_none→gN,perm_append_comm→gO,take_append_drop→gP,foldl_append→gR,getElem?_set_ne→gZ,getElem_mem→hZ,length_pos_iff→iG,mem_of_mem_eraseIdx→iL,length_zip→iP,pairwise_singleton→iU,length_drop→jI,prefix_refl→jJ,length_eraseIdx→jN,pairwise_append→jO,pairwise_cons→kJ,getElem?_zip_eq_some→kR,map_id→lB,pairwise_map→lC,any_cons→lF,ext_getElem→mC,perm_middle→mD,take_of_length_le→mI,length_filter_le→nM,length→nZ,getElem?_range→oM,map_take→qB,map_drop→qC,filter_append→qF,set_eq_take_append_cons_drop→qX,ext_getElem?→rJ,cons→sK,mem_eraseIdx_iff_getElem?→sL,of_mem_zip→uU,nil_append→uV,countP_eq_length_filter→uW,pairwise_iff_getElem→yN,getElem?_take_of_lt→yR
open PySem.Heap renaming get?_push_of_some→aJ,lt_size→aP,get?_push_size→bO,get?_update_other→cB,get?_update_self→fM,size_update→mE,size_push→wK
open Nat renaming le_refl→aO,lt_of_lt_of_le→aQ,zero_le→bJ,ne_of_lt→bN,le_trans→cC,lt_of_le_of_lt→cI,le_of_lt→dC,lt_irrefl→eE,le_of_ble_eq_true→eI,le_succ→hX,ne_of_gt→jB,mul_le_mul_right→jT,lt_succ_self→mF,lt_of_not_le→mG,lt_trans→mU,not_lt→mV,min_self→mW,pow_le_pow_right→oJ,lt_succ_of_lt→rO,sub_self→rP,zero_add→rQ
open Bool renaming false_ne_true→aZ,and_eq_true→bG,false_eq_true→bR,eq_iff_iff→iQ,not_eq_true'→lD,or_eq_true→mY,beq_eq_decide_eq→nN,false_and→wJ
open Array renaming length_toList→bS,toList_append→cJ,getElem?_toList→cS,toList_extract→cY,perm_iff_toList_perm→fK,size_extract→iR,toList_push→iZ,toList_reverse→jM,forIn_toList→qD,toList_inj→rR,toList_map→rS
open Option renaming some→bY,map_eq_some_iff→eD,isSome_iff_exists→kS
open Int renaming emod_lt_of_pos→dD,toNat_natCast→dM,emod_nonneg→dX,ne_of_gt→kC,le_refl→lG,zero_add→mX,toNat→oN,natCast_nonneg→qY,fdiv_eq_ediv_of_nonneg→yO
open PySem.F renaming slot_dict_setdefault→gG,plainAttrs_dict→iM,plainAttrs_list→iN,args_tuple_add_2→kO,slot_list_append→kP,type_list_append→kQ,entry_tuple_add→lE,slot_tuple_add→lY,slot_dict_get→mH,args_dict_setdefault_3→qZ,entry_dict_setdefault→rK,type_dict_setdefault→rW,excBase_ValueError→uT,args_dict_get_3→wL,plain_list_iadd→wM,entry_dict_get→yQ,slot_dict_pop→yS
open Array renaming getElem?_eq_none→aAm,getElem?_modify→aAP,toList→aKL
open List renaming drop_eq_nil_of_le→aAO,set_getElem_self→aAQ,reverse_reverse→aDj,mem_of_mem_drop→aDk,mem_of_mem_take→aDl,take_succ_cons→aDr,reverse_append→aDs,flatMap_append→aDt,mem_filterMap→aER,getElem_range→aES,getElem?_drop→aET,any_eq_false→aFO,filter_congr→aFP,cons_append→aHZ,getLast_mem→aIa,any_eq_true→aIb,nodup_range→aIc,length_set→aIj,zip_append→aIk,range_succ→aIl,take_zero→aKt,drop_drop→aKu,all_cons→aKI,sum_cons→aKJ
open PySem.W renaming mg_none_of→aAR,specialIn→aDo,kitx_list→aDp,kitx_dict→aDq,plainGet→aDv,mroIn→aIe,isFn→aIo
open Nat renaming le_of_eq→aDm,succ_mul→aDn,succ→aFQ,lt_of_succ_lt→aId,le_add_right→aIm,not_le_of_lt→aIn,add_assoc→aLH,pow_succ→aMg
open Option renaming isSome_map→aDu,none→aKK
open Bool renaming eq_false_iff→aFR
open PySem.Heap renaming get?_push_ne→aFS
open Int renaming ne_of_lt→aMh,le_of_eq→aMi,mul_comm→aMj
open PySem renaming Value→BD,Shared→BE,Addr→BF,Around→BG,Heap→BH,Obj→BI,Stmt→BJ,SetTable→BL
open PyProof.Rows renaming SortSt→BK
namespace L2
open PySem PySem.Spec PyProof.Rows
noncomputable abbrev Key:=Sum Int Str
noncomputable def vR:Key->BD->Bool
 |.inl k,v=>Value.isInt k v
 |.inr x,v=>Value.isStrOf x v
noncomputable def keyH(w:AM):Key->Int
 |.inl k=>hashInt k
 |.inr x=>hashStr w x
theorem fP:∀ {k:Key}{v:BD},vR k v=true->(∃i t,k=Sum.inl i/\v=Value.int i t)\/(∃x t,k=Sum.inr x/\v=Value.str x t)
 |.inl i,v,h=>by obtain⟨t,e⟩:=Value.isInt_shape (k:=i) (v:=v) h;exact .inl ⟨i,t,rfl,e⟩
 |.inr x,v,h=>by obtain⟨t,e⟩:=Value.isStrOf_shape (x:=x) (v:=v) h;exact .inr ⟨x,t,rfl,e⟩
theorem aCY(i:Int)(t:Tok):vR (.inl i) (.int i t)=true:=by simp[vR,Value.isInt]
theorem aCx(x:Str)(t:Tok):vR (.inr x) (.str x t)=true:=by simp[vR,Value.isStrOf]
theorem aJI(a b:Int):decide ((Sum.inl a:Key)=Sum.inl b)=(a==b):=by
 by_cases e:a=b
 ·subst e;simp
 ·have h:¬ (Sum.inl a:Key)=Sum.inl b:=λq=>e (Sum.inl.inj q)
  rw[decide_eq_false h];exact(beq_eq_false_iff_ne.mpr e).symm
theorem aJt(a b:Str):decide ((Sum.inr a:Key)=Sum.inr b)=decide (a=b):=by
 by_cases e:a=b
 ·subst e;simp
 ·have h:¬ (Sum.inr a:Key)=Sum.inr b:=λq=>e (Sum.inr.inj q)
  rw[decide_eq_false h,decide_eq_false e]
theorem aKa(a:Int)(b:Str):decide ((Sum.inl a:Key)=Sum.inr b)=false:=decide_eq_false λq=>nomatch q
theorem aJZ(a:Str)(b:Int):decide ((Sum.inr a:Key)=Sum.inl b)=false:=decide_eq_false λq=>nomatch q
noncomputable def dG(prog:AF)(w:AM):PySem.KeyKind prog w Key where
 is:=vR
 hash:=keyH w
 inj:=λv a b ha hb=>by
  rcases fP ha with⟨i,t,rfl,rfl⟩|⟨x,t,rfl,rfl⟩
  ·rcases fP hb with⟨j,u,rfl,e⟩|⟨y,u,rfl,e⟩
   ·injection e with e1 _;rw[e1]
   ·exact nomatch e
  ·rcases fP hb with⟨j,u,rfl,e⟩|⟨y,u,rfl,e⟩
   ·exact nomatch e
   ·injection e with e1 _;rw[e1]
 byValue:=λk v h=>by rcases fP h with⟨i,t,rfl,rfl⟩|⟨x,t,rfl,rfl⟩<;>rfl
 pyHash:=λhv h=>by
  rcases fP hv with⟨i,t,rfl,rfl⟩|⟨x,t,rfl,rfl⟩
  ·exact wpAny_pyHash_int h
  ·exact wpAny_pyHash_str h
 eqBool:=λhu hv h=>by
  rcases fP hu with⟨i,t,rfl,rfl⟩|⟨x,t,rfl,rfl⟩
  ·rcases fP hv with⟨j,u,rfl,rfl⟩|⟨y,u,rfl,rfl⟩
   ·rw[aJI] at h;exact wpAny_eqBool_int h
   ·rw[aKa] at h;exact SeqAt.EqAt.int_str i t y u _ _ _ _ h
  ·rcases fP hv with⟨j,u,rfl,rfl⟩|⟨y,u,rfl,rfl⟩
   ·rw[aJZ] at h;exact SeqAt.EqAt.str_int x t j u _ _ _ _ h
   ·rw[aJt] at h;exact wpAny_eqBool_str h
 «strs»:=λk x t v h=>by
  rcases fP h with⟨i,u,rfl,e⟩|⟨y,u,rfl,e⟩
  ·exact nomatch e
  ·injection e with e1 _
   subst e1;cases v<;>rfl
theorem zR(prog:AF)(w:AM)(i:Int)(t:Tok):(dG prog w).is (.inl i) (.int i t)=true:=aCY i t
theorem zH(prog:AF)(w:AM)(x:Str)(t:Tok):(dG prog w).is (.inr x) (.str x t)=true:=aCx x t
inductive V where
 |non|bl (b:Bool)|int (i:Int)|str (x:Str)|byt (b:Array UInt8)|flt (b:UInt64)|ref (a:BF)|ty (n:String)
 deriving DecidableEq
noncomputable def RelV:V->BD->Prop
 |.non,u=>u=Value.none
 |.bl b,u=>u=Value.bool b
 |.int i,u=>∃t,u=Value.int i t
 |.str x,u=>∃t,u=Value.str x t
 |.byt b,u=>∃t,u=Value.bytes b t
 |.flt b,u=>∃t,u=Value.float b t
 |.ref a,u=>u=Value.ref a
 |.ty n,u=>u=Value.type n
abbrev Vals:List V->List BD->Prop:=Paired RelV
theorem Vals.length{xs:List V}{us:List BD}(r:Vals xs us):xs.length=us.length:=Paired.length r
theorem Vals.get:∀ {xs:List V}{us:List BD}{i:Nat}{x:V},Vals xs us->xs[i]? =some x->∃u,us[i]? =some u/\RelV x u
 |_,_,_,_,.nil,e=>by simp at e
 |_,_,0,_,.cons r _,e=>by simp at e;subst e;exact⟨_,rfl,r⟩
 |_,_,i+1,x,.cons _ t,e=>by obtain⟨u,h1,h2⟩:=Vals.get (i:=i) (x:=x) t (by simpa using e);exact⟨u,by simpa using h1,h2⟩
theorem Vals.append:∀ {xs ys:List V}{us ws:List BD},Vals xs us->Vals ys ws->Vals (xs++ys) (us++ws)
 |_,_,_,_,.nil,s=>s
 |_,_,_,_,.cons r t,s=>.cons r<|Vals.append t s
theorem Vals.take:∀ {xs:List V}{us:List BD} (n:Nat),Vals xs us->Vals (xs.take n) (us.take n)
 |_,_,0,_=>.nil
 |_,_,_+1,.nil=>.nil
 |_,_,n+1,.cons r t=>.cons r<|Vals.take n t
theorem Vals.drop:∀ {xs:List V}{us:List BD} (n:Nat),Vals xs us->Vals (xs.drop n) (us.drop n)
 |_,_,0,r=>r
 |_,_,_+1,.nil=>.nil
 |_,_,n+1,.cons _ t=>Vals.drop n t
noncomputable def RelO:Option V->Option BD->Prop
 |some v,some u=>RelV v u
 |none,none=>True
 |_,_=>False
def KV{κ:Type}:List (κ×V)->List (κ×BD)->Prop:=Paired λ(p:κ×V) (q:κ×BD)=>p.1=q.1/\RelV p.2 q.2
noncomputable def kV:Key->V
 |.inl i=>.int i
 |.inr x=>.str x
inductive HO where
 /-- a list -/
 |lst (xs:List V)
 /-- a tuple (never changes) -/
 |tup (xs:List V)
 /-- a dict whose keys are ints and texts;one whose keys are tuples of ints and texts (the empty one is both) -/
 |dK (kvs:List (Key×V))|dT (kvs:List (List Key×V))
 /-- a set of ints:its members,its size -/
 |set (S:Int->Bool) (n:Nat)
 /-- an instance of the class at C,its dict at dx,its attributes -/
 |ins (C dx:BF) (fs:List (Str×V))
 /-- the dict of the instance at x -/
 |own (x:BF)
 /-- the dict of an exception -/
 |xd (fs:List (Str×V))
 /-- a bound method,f of x -/
 |met (f x:BF)
 /-- a range object lo,lo+1, .. below hi -/
 |rng (lo hi:Int)
 /-- a thing that is known to the object (the script;a dict while a loop walks it):read,never written while it is so -/
 |frz (o:BI) (u:HO)
 /-- a code object's table -/
 |tbl (ps:Array BD)
 /-- any other thing,by what is true of its one object (a def of one's own:SetO a S n:=HO.ext λh=> ..) -/
 |ext (φ:BH->Prop)
noncomputable abbrev Hp:=BF->Option HO
noncomputable def upd(H:Hp)(a:BF)(o:HO):Hp:=λb=>if b=a then some o else H b
theorem bM{H:Hp}{a:BF}{o:HO}:upd H a o a=some o:=by unfold upd;rw[if_pos rfl]
theorem bD{H:Hp}{a b:BF}{o:HO}(h:b≠a):upd H a o b=H b:=by unfold upd;rw[if_neg h]
theorem aLb{H:Hp}{a b:BF}{o u:HO}(h:H a=some o)(h':H b=some u)(d:o≠u):a≠b:=by intro e;subst e;rw[h] at h';exact d<|bY.inj h'
theorem bX{H:Hp}{a b:BF}{o:HO}(h:H a=some o)(h':H b=none):a≠b:=by intro e;subst e;rw[h] at h';cases h'
def IsTupD(h:BH)(a:BF)(items:Array BD):Prop:=∃o,h.get? a=some o/\o.cls=.type "tuple"/\(∃n,o.data=.seq items n)/\o.dict=none
theorem IsTupD.tup{h:BH}{a:BF}{items:Array BD}(x:IsTupD h a items):IsTup h a items:=let ⟨o,e,c,d,_⟩:=x;⟨o,e,c,d⟩
theorem IsTupD.new(h:BH)(items:Array BD):IsTupD (h.push {cls:=.type "tuple",data:=.seq items}) h.objs.size items:=⟨_,bO _ rfl,rfl,⟨_,rfl⟩,rfl⟩
variable (P:AF)(w:AM)
noncomputable def ObjOk(H:Hp)(h:BH)(a:BF):HO->Prop
 |.lst xs=>xs.length<=AL/\∃ (its:List BD) (n:Nat),Vals xs its/\h.get? a=some {cls:=.type "list",data:=.seq its.toArray n}
 |.tup xs=>xs.length<=AL/\∃its:List BD,Vals xs its/\IsTupD h a its.toArray
 |.dK kvs=>kvs.length<=AL/\(a==AU)=false/\∃vs,KV kvs vs/\h.DictOf (dG P w) a vs
 |.dT kvs=>kvs.length<=AL/\(a==AU)=false/\∃xs:List (List Key×BF×BD),
   Paired (λ(p:List Key×V) (q:List Key×BF×BD)=>p.1=q.1/\H q.2.1=some (.tup<|p.1.map kV)/\RelV p.2 q.2.2) kvs xs/\
   ∃o es ep,h.get? a=some o/\o.ExactDict/\o.data=.dict es ep/\es.toList=xs.map (entryOfKey (AN<|dG P w))/\(xs.map (·.1)).Nodup
 |.set S n=>h.SetOf (intKind P w) a S n
 |.ins C dx fs=>H dx=some (.own a)/\fs.length<=1000/\dx≠a/\h.get? a=some (rV C dx)/\
   ∃mA,h.Ns1 dx mA/\(∀f,RelO (fs.lookup f)<|mA f)/\PySem.Within mA (fs.map (·.1))
 |.own _=>∃o,h.get? a=some o
 |.xd fs=>∃mA,h.Ns1 a mA/\∀f,RelO (fs.lookup f)<|mA f
 |.rng lo hi=>∃t u v,h.get? a=some {cls:=.type "range",data:=.fields #[.int lo t,.int hi u,.int 1 v]}
 |.frz o u=>h.get? a=some o/\ObjOk H h a u
 |.tbl ps=>h.get? a=some {cls:=.none,data:=.fields ps}
 |.met f x=>h.get? a=some (qE (.ref f)<|.ref x)
 |.ext φ=>φ h/\(∃o,h.get? a=some o)/\∀h1 h2:BH,φ h1->(∀o,h1.get? a=some o->h2.get? a=some o)->φ h2
def HOk(H:Hp)(h:BH):Prop:=∀a o,H a=some o->ObjOk P w H h a o
variable {P:AF}{w:AM}{H H':Hp}{h h':BH}{a:BF}{o:HO}
theorem ObjOk.lt(x:ObjOk P w H h a o):a<h.objs.size:=by
 cases o with
 |lst xs=>obtain⟨_,_,_,_,e⟩:=x;exact aP e
 |tup xs=>obtain⟨_,_,_,p⟩:=x;exact p.tup.lt
 |dK kvs=>obtain⟨_,_,_,_,o,_,_,e,_⟩:=x;exact aP e
 |dT kvs=>obtain⟨_,_,_,_,o,_,_,e,_⟩:=x;exact aP e
 |set S n=>obtain⟨o,_,_,_,e,_⟩:=x;exact aP e
 |ins C dx fs=>obtain⟨_,_,_,e,_⟩:=x;exact aP e
 |own y=>obtain⟨_,e⟩:=x;exact aP e
 |xd fs=>obtain⟨_,⟨_,_,_,e,_⟩,_⟩:=x;exact aP e
 |rng lo hi=>obtain⟨_,_,_,e⟩:=x;exact aP e
 |frz ob u=>obtain⟨e,_⟩:=x;exact aP e
 |tbl ps=>exact aP (show h.get? a=some _ from x)
 |met f y=>exact aP (show h.get? a=some _ from x)
 |ext φ=>obtain⟨_,⟨_,e⟩,_⟩:=x;exact aP e
theorem Paired.mapP{α β:Type}{F G:α->β->Prop}:∀ {l₁:List α}{l₂:List β},Paired F l₁ l₂->(∀a b,F a b->G a b)->Paired G l₁ l₂
 |_,_,.nil,_=>.nil
 |_,_,.cons r t,f=>.cons (f _ _ r)<|Paired.mapP t f
theorem ObjOk.stay(x:ObjOk P w H h a o)(k:∀b u,(b=a\/H b=some (.own a))->h.get? b=some u->h'.get? b=some u)
  (ho:∀b,H b=some (.own a)->H' b=some (.own a)) (ht:∀b xs,H b=some (.tup xs)->H' b=some (.tup xs)):ObjOk P w H' h' a o:=by
 induction o with
 |lst xs=>obtain⟨z,its,n,r,e⟩:=x;exact⟨z,its,n,r,k _ _ (.inl rfl) e⟩
 |tup xs=>obtain⟨z,its,r,ob,e,c⟩:=x;exact⟨z,its,r,ob,k _ _ (.inl rfl) e,c⟩
 |dK kvs=>obtain⟨z,y,vs,r,ob,es,ep,e,c⟩:=x;exact⟨z,y,vs,r,ob,es,ep,k _ _ (.inl rfl) e,c⟩
 |dT kvs=>obtain⟨z,y,xs,r,ob,es,ep,e,c⟩:=x;exact⟨z,y,xs,Paired.mapP r λp q z=>⟨z.1,ht _ _ z.2.1,z.2.2⟩,ob,es,ep,k _ _ (.inl rfl) e,c⟩
 |set S n=>obtain⟨ob,es,ep,t,e,c⟩:=x;exact⟨ob,es,ep,t,k _ _ (.inl rfl) e,c⟩
 |ins C dx fs=>obtain⟨d,z,ne,e,mA,⟨od,es,ep,e2,c⟩,r⟩:=x;exact⟨ho _ d,z,ne,k _ _ (.inl rfl) e,mA,⟨od,es,ep,k _ _ (.inr d) e2,c⟩,r⟩
 |own y=>obtain⟨ob,e⟩:=x;exact⟨ob,k _ _ (.inl rfl) e⟩
 |xd fs=>obtain⟨mA,⟨od,es,ep,e,c⟩,r⟩:=x;exact⟨mA,⟨od,es,ep,k _ _ (.inl rfl) e,c⟩,r⟩
 |rng lo hi=>obtain⟨t,u,v,e⟩:=x;exact⟨t,u,v,k _ _ (.inl rfl) e⟩
 |frz ob u ih=>obtain⟨e,q⟩:=x;exact⟨k _ _ (.inl rfl) e,ih q⟩
 |tbl ps=>have e:h.get? a=some {cls:=.none,data:=.fields ps}:=x;show h'.get? a=some {cls:=.none,data:=.fields ps};exact k a _ (.inl rfl) e
 |met f y=>have e:h.get? a=some (qE (.ref f)<|.ref y):=x;show h'.get? a=some (qE (.ref f)<|.ref y);exact k a _ (.inl rfl) e
 |ext φ=>obtain⟨p,⟨o,e⟩,st⟩:=x;exact⟨st _ _ p λo q=>k _ _ (.inl rfl) q,⟨o,k _ _ (.inl rfl) e⟩,st⟩
theorem HOk.lt(x:HOk P w H h)(e:H a=some o):a<h.objs.size:=(x a o e).lt
theorem HOk.fresh(x:HOk P w H h)(e:h.objs.size<=a):H a=none:=by
 cases q:H a with
 |none=>rfl
 |some u=>exact absurd (aQ (x.lt q) e)<|eE _
theorem HOk.kept(x:HOk P w H h)(k:∀b u,h.get? b=some u->h'.get? b=some u):HOk P w H h':=λa o e=>(x a o e).stay (λb u _ q=>k b u q) (λ_ q=>q) λ_ _ q=>q
theorem HOk.laid(x:HOk P w H h)(k:∀b u,h.get? b=some u->h'.get? b=some u)(hp:h.objs.size<=a)(new:ObjOk P w (upd H a o) h' a o):HOk P w (upd H a o) h':=λb u e=>by
 have hn:=x.fresh hp
 by_cases hb:b=a
 ·subst hb;rw[bM] at e;cases e;exact new
 ·rw[bD hb] at e;exact(x b u e).stay (λc v _ q=>k c v q) (λc q=>by rw[bD<|bX q hn];exact q) λc xs q=>by rw[bD<|bX q hn];exact q
def Rd(H:Hp)(a:BF)(u:HO):Prop:=H a=some u\/∃o,H a=some (.frz o u)
theorem Rd.of{u:HO}(h:H a=some u):Rd H a u:=.inl h
theorem Rd.ok{u:HO}(r:Rd H a u)(x:HOk P w H h):ObjOk P w H h a u:=by
 rcases r with r|⟨o,r⟩
 ·exact x a u r
 ·obtain⟨_,q⟩:=x a _ r;exact q
noncomputable def Mut:Option HO->Prop
 |some (.lst _)=>True
 |some (.dK _)=>True
 |some (.dT _)=>True
 |some (.set _ _)=>True
 |some (.ins _ _ _)=>True
 |some (.ext _)=>True
 |_=>False
variable {x e:BF}{o':HO}
theorem HOk.write(ok:HOk P w H h)(mu:Mut (H x))(he:e=x\/H e=some (.own x))(k:∀b u,b≠e->h.get? b=some u->h'.get? b=some u)(heo:∃u,h'.get? e=some u)
  (new:ObjOk P w (upd H x o') h' x o'):HOk P w (upd H x o') h':=λb u q=>by
 have nown:∀c y,H c=some (.own y)->c≠x:=λc y r z=>by subst z;rw[r] at mu;exact mu
 have ntup:∀c xs,H c=some (.tup xs)->c≠x:=λc xs r z=>by subst z;rw[r] at mu;exact mu
 by_cases hb:b=x
 ·subst hb;rw[bM] at q;cases q;exact new
 ·rw[bD hb] at q
  by_cases hbe:b=e
  ·have q':H b=some (.own x):=by
    rcases he with z|z
    ·exact absurd (hbe.trans z) hb
    ·rw[hbe];exact z
   rw[q] at q';cases q';obtain⟨v,hv⟩:=heo;exact⟨v,by rw[hbe];exact hv⟩
  ·refine(ok b u q).stay (λc v hc r=>k c v ?_ r) (λc r=>by rw[bD<|nown c b r];exact r) λc xs r=>by rw[bD<|ntup c xs r];exact r
   rcases hc with rfl|hc
   ·exact hbe
   ·rintro rfl
    rcases he with z|z
    ·exact nown c b hc z
    ·rw[hc] at z;cases z;exact hb rfl
structure Un(fs ex:List BF)(H H':Hp)(h h':BH):Prop where
 keep:∀b o,h.get? b=some o->H b=none->b∉fs->b∉ex->h'.get? b=some o
 slot:∀b o,h.get? b=some o->H b=none->b∈fs->b∉ex->∃sl,h'.get? b=some {o with slots:=sl}
 free:∀b o,h.get? b=some o->H b=none->b∉ex->H' b=none
 there:∀b o,h.get? b=some o->b∉ex->∃o',h'.get? b=some o'
 tups:∀b xs,H b=some (.tup xs)->H' b=some (.tup xs)
 frzs:∀b o u,H b=some (.frz o u)->H' b=some (.frz o u)
 tbls:∀b ps,H b=some (.tbl ps)->∃more,H' b=some (.tbl<|ps++more)
section
variable {fs fs' ex ex':List BF}{H H1 H2:Hp}{h h1 h2 h':BH}{a x e:BF}{o:HO}
theorem Un.any(u:Un fs ex H H1 h h1){b:BF}{ob:BI}(q:h.get? b=some ob)(n:H b=none)(hx:b∉ex):∃sl,h1.get? b=some {ob with slots:=sl}:=by
 by_cases hb:b∈fs
 ·exact u.slot b ob q n hb hx
 ·exact⟨ob.slots,u.keep b ob q n hb hx⟩
theorem Un.kept(k:∀b u,h.get? b=some u->h'.get? b=some u):Un fs ex H H h h':=
 ⟨λb ob q _ _ _=>k b ob q,λb ob q _ _ _=>⟨ob.slots,k b ob q⟩,λ_ _ _ n _=>n,λb ob q _=>⟨ob,k b ob q⟩,λ_ _ q=>q,λ_ _ _ q=>q,λ_ ps q=>⟨#[],by rw[q];simp⟩⟩
theorem Un.refl:Un fs ex H H h h:=Un.kept λ_ _ q=>q
theorem Un.laid(k:∀b u,h.get? b=some u->h'.get? b=some u)(hp:h.objs.size<=a)(hn:H a=none):Un fs ex H (upd H a o) h h' where
 keep:=λb u q _ _ _=>k b u q
 slot:=λb u q _ _ _=>⟨u.slots,k b u q⟩
 free:=λb u q n _=>by rw[bD (bN<|aQ (aP q) hp)];exact n
 there:=λb u q _=>⟨u,k b u q⟩
 tups:=λb xs q=>by rw[bD<|bX q hn];exact q
 frzs:=λb u xs q=>by rw[bD<|bX q hn];exact q
 tbls:=λb ps q=>⟨#[],by rw[bD<|bX q hn,q];simp⟩
theorem Un.write(mu:Mut (H x))(he:e=x\/H e=some (.own x))(k:∀b u,b≠e->h.get? b=some u->h'.get? b=some u)(heo:∃u,h'.get? e=some u):Un fs ex H (upd H x o) h h':=by
 have hx:∀b,H b=none->b≠x:=λb n z=>by subst z;rw[n] at mu;exact mu
 have hb:∀b,H b=none->b≠e:=λb n z=>by
  subst z
  rcases he with r|r
  ·exact hx b n r
  ·rw[n] at r;cases r
 have hm:∀b u,H b=some u->¬ Mut (some u)->b≠x:=λb u q nm z=>by subst z;rw[q] at mu;exact nm mu
 refine ⟨fun b u q n _ _=>k b u (hb b n) q,fun b u q n _ _=>⟨u.slots,k b u (hb b n) q⟩,fun b u q n _=>by rw [bD (hx b n)]; exact n,fun b u q _=> ?_,
  λb xs q=>by rw[bD (hm b _ q λz=>z)];exact q,λb u xs q=>by rw[bD (hm b _ q λz=>z)];exact q,λb ps q=>⟨#[],by rw[bD (hm b _ q λz=>z),q];simp⟩⟩
 by_cases hbe:b=e
 ·subst hbe;exact heo
 ·exact⟨u,k b u hbe q⟩
end
noncomputable def trk(h:BH)(H:Hp):List BF:=(bQ h.objs.size).filter λa=>(H a).isSome
noncomputable def yJ(h:BH)(H:Hp):BH:=PySem.W.hideAll h<|trk h H
theorem aDa(h:BH)(H:Hp):(yJ h H).objs.size=h.objs.size:=PySem.W.hideAll_size _ _
theorem aEm{b:BF}{o:BI}(e:h.get? b=some o)(n:H b=none):(yJ h H).get? b=some o:=
 PySem.W.hideAll_get _ e λhm=>by have q:(H b).isSome=true:=(fR.mp hm).2;rw[n] at q;simp at q
theorem aHW{b:BF}{o:BI}(e:(yJ h H).get? b=some o):h.get? b=some o/\H b=none:=by
 have e':h.get? b=some o:=PySem.W.of_hideAll (trk h H) e;refine⟨e', ?_⟩;cases q:H b with
 |none=>rfl
 |some x=>have hm:b∈trk h H:=fR.mpr ⟨dU.mpr<|aP e',by simp[q]⟩;have z:(yJ h H).get? b=none:=PySem.W.hideAll_none (trk h H) hm;rw[z] at e;cases e
noncomputable def aHn(g h:BH)(L:BF):List (BF×BI):=(bQ h.objs.size).filterMap λa=>if a=L\/(g.get? a).isSome=true then none else(h.get? a).map λo=>(a,o)
noncomputable def rest(g h:BH)(L d:BF):List (BF×BI):=(aHn g h L).filter λp=>decide<|p.1≠d
structure Mod(K:aA)(mg:Str->Option BD)(base:BH):Prop where
 kin:K.In base
 glob:base.Ns AO mg
 blt:∃mb,base.Ns builtinsNs mb/\∀x:Str,x≠"__name__"->mb x=Ac x
 nolimit:base.NoLimit
noncomputable def xJ:HO->Prop
 |.lst _=>False
 |.dK _=>False
 |.ext _=>False
 |_=>True
structure Cx where
 prog:AF
 w:AM
 K:aA
 mg:Str->Option BD
 base:BH
 A:BG
 N:List Str
 s₀:BE
 H₀:Hp
 env:Env
 outer:List Env
 stack:List Env
 ex:List BF
 fn:Str->Bool
 calm:Bool
 pn:List (BF×BI)
 xe:BD->BE->Prop
 B₀:Hp:=H₀
 hB:∀b o,H₀ b=some o->xJ o->B₀ b=some o:=by intro b o e _;exact e
noncomputable def frs(l:List Env):List BF:=l.filterMap (·.frame)
noncomputable abbrev Cx.fs(X:Cx):List BF:=frs X.outer
def Vis(sc:Scope)(x:Str):Prop:=sc.names.lookup x=some .local\/sc.names.lookup x=some .cell\/sc.names.lookup x=some .free
def Loc(sc:Scope)(x:Str):Prop:=sc.names.lookup x=some .local\/sc.names.lookup x=some .cell
def aMb(env:Env)(h:BH)(m:Str->Option BD)(x:Str)(u:BD):Prop:=
 (env.kindOf x=some .local/\m x=some u)\/((env.kindOf x=some .cell\/env.kindOf x=some .free)/\∃c,env.cells.lookup x=some c/\h.IsCell c (some u))
structure Cx.Ok(X:Cx):Prop where
 mod:Mod X.K X.mg X.base
 kind:X.env.scope.kind=.function
 glob:X.env.globals=AO
 blt:X.env.builtins=builtinsNs
 above:X.s₀.heap.objs.size<=X.env.locals
 inj:∀x y c,X.env.cells.lookup x=some c->X.env.cells.lookup y=some c->x=y
 has:∀x,(X.env.kindOf x=some .cell\/X.env.kindOf x=some .free)->∃c,X.env.cells.lookup x=some c
 cab:∀x c,X.fn x=true->X.env.cells.lookup x=some c->X.s₀.heap.objs.size<=c
 hd:X.calm=true->X.A.handled=none
 frames:X.A.frames=some X.stack
 stk:X.stack=X.outer\/(X.stack=X.env::X.outer/\X.env.frame=some X.env.locals)
 exf:∀b∈X.ex,b≠X.env.locals/\∀x c,X.env.cells.lookup x=some c->c≠b
 bs:∀b o,X.base.get? b=some o->X.s₀.heap.get? b=some o/\X.H₀ b=none
 bsz:X.base.objs.size<=X.s₀.heap.objs.size
 noex:∀b o,X.base.get? b=some o->b∉X.ex
 exfs:∀b∈X.ex,b∉X.fs
 funs:X.s₀.heap.FunFrames X.base X.outer
 frf:∀b∈X.fs,X.H₀ b=none
structure Inv(X:Cx)(pins:List (BF×BI))(σ:List (Option V))(H:Hp)(s:BE):Prop where
 ok:X.Ok
 os:s.os=X.s₀.os
 bare:AllBare s.gens
 base:Un X.fs X.ex X.H₀ H X.s₀.heap s.heap
 loc:∃m,s.heap.Ns X.env.locals m/\∀ (i:Nat) (x:Str) (v:V),X.N[i]? =some x->σ[i]? =some (some v)->Vis X.env.scope x->∃u,RelV v u/\aMb X.env s.heap m x u
 cell:∀x c,X.env.cells.lookup x=some c->∃v,s.heap.IsCell c v
 free:H X.env.locals=none
 freeC:∀x c,X.env.cells.lookup x=some c->H c=none
 pin:∀p∈X.pn++pins,s.heap.get? p.1=some p.2/\H p.1=none/\p.1≠X.env.locals/\p.1∉X.fs/\∀v,p.2.data≠ .cell v
 hok:HOk X.prog X.w H s.heap
 len:σ.length=X.N.length
variable {X:Cx}{pins:List (BF×BI)}{σ:List (Option V)}{s:BE}
theorem Cx.Ok.nofr(ok:X.Ok){b:BF}{o:BI}(e:X.base.get? b=some o):b∉X.fs:=λhb=>by have:=(ok.funs.mem hb).1;rw[e] at this;cases this
theorem Inv.bs(I:Inv X pins σ H s):∀b o,X.base.get? b=some o->s.heap.get? b=some o/\H b=none:=λb o e=>⟨I.base.keep b o (I.ok.bs b o e).1 (I.ok.bs b o e).2 (I.ok.nofr e)<|I.ok.noex b o e,I.base.free b o (I.ok.bs b o e).1 (I.ok.bs b o e).2<|I.ok.noex b o e⟩
theorem Inv.bk(I:Inv X pins σ H s):∀b o,X.base.get? b=some o->s.heap.get? b=some o:=λb o e=>(I.bs b o e).1
theorem Inv.mod(I:Inv X pins σ H s):Mod X.K X.mg X.base:=I.ok.mod
theorem Inv.kIn(I:Inv X pins σ H s):X.K.In s.heap:=I.ok.mod.kin.keeps I.bk
theorem Inv.lt(I:Inv X pins σ H s):X.env.locals<s.heap.objs.size:=let ⟨_,hn,_⟩:=I.loc;hn.lt
theorem Inv.sz(I:Inv X pins σ H s):X.s₀.heap.objs.size<=s.heap.objs.size:=cC I.ok.above<|dC I.lt
theorem Inv.nofs(I:Inv X pins σ H s)(h:s.heap.objs.size<=a):a∉X.fs:=λhb=>by obtain⟨_,o,ho,_⟩:=I.ok.funs.mem hb;exact absurd (aQ (aP ho)<|cC I.sz h)<|eE _
theorem Inv.cne(I:Inv X pins σ H s):∀x c,X.env.cells.lookup x=some c->c≠X.env.locals:=λx c e z=>by obtain⟨v,o,ho,hd⟩:=I.cell x c e;obtain⟨m,⟨o',es,ep,ho',hd',_⟩,_⟩:=I.loc;rw[z,ho'] at ho;cases ho;rw[hd'] at hd;cases hd
theorem Inv.funs(I:Inv X pins σ H s):s.heap.FunFrames X.base X.outer:=by
 have all:∀ (l:List Env),(∀b∈frs l,b∈X.fs)->X.s₀.heap.FunFrames X.base l->s.heap.FunFrames X.base l:=by
  intro l
  induction l with
  |nil=>intro _ _;trivial
  |cons env r ih=>
   intro hs hl;obtain⟨hk,⟨L,o,hf,hn,ho,hd⟩,hr⟩:=hl;have hL:L∈X.fs:=hs L (by unfold frs;rw[fD,hf];exact aE);obtain⟨sl,e⟩:=I.base.slot L o ho (I.ok.frf L hL) hL λz=>I.ok.exfs L z hL
   exact⟨hk,⟨L,_,hf,hn,e,hd⟩,ih (λb hb=>hs b<|by unfold frs;rw[fD,hf];exact aC _ hb) hr⟩
 exact all X.outer (λ_ hb=>hb) I.ok.funs
theorem Inv.stack(I:Inv X pins σ H s):s.heap.FunFrames X.base X.stack:=by
 rcases I.ok.stk with e|⟨e,hf⟩
 ·rw[e];exact I.funs
 ·rw[e];obtain⟨m,hn,_⟩:=I.loc;refine .cons (by rw[I.ok.kind];decide) hf hn ?_ I.funs;exact Heap.get?_none_of_le<|cC I.ok.bsz I.ok.above
theorem Inv.stkSub(I:Inv X pins σ H s):∀b∈frs X.stack,b∈X.env.locals::X.fs:=λb hb=>by
 rcases I.ok.stk with e|⟨e,hf⟩
 ·rw[e] at hb;exact aC _ hb
 ·rw[e] at hb;unfold frs at hb;rw[fD,hf] at hb;exact hb
theorem Inv.stkFree(I:Inv X pins σ H s):∀b∈frs X.stack,H b=none:=λb hb=>by
 rcases aR.mp (I.stkSub b hb) with e|hb
 ·rw[e];exact I.free
 ·obtain⟨_,o,ho,_⟩:=I.ok.funs.mem hb;exact I.base.free b o ho (I.ok.frf b hb) λz=>I.ok.exfs b z hb
theorem Inv.step{g':Array GenState}{t':Nat}{d':Drawn}{ch:List BF}(I:Inv X pins σ H s)
  (hch:∀b∈ch,(b∈X.ex\/X.s₀.heap.objs.size<=b)/\b≠X.env.locals/\(∀x c,X.env.cells.lookup x=some c->c≠b)/\∀p∈X.pn++pins,p.1≠b)
  (keep:∀b o,b≠X.env.locals->b∉X.fs->b∉ch->s.heap.get? b=some o->H b=none->h'.get? b=some o)
  (slot:∀b o,b≠X.env.locals->b∈X.fs->b∉ch->s.heap.get? b=some o->H b=none->∃sl,h'.get? b=some {o with slots:=sl}) (free:∀b o,b∉ch->s.heap.get? b=some o->H b=none->H' b=none)
  (there:∀b o,b∉ch->s.heap.get? b=some o->∃o',h'.get? b=some o')
  (tups:∀b xs,H b=some (.tup xs)->H' b=some (.tup xs)) (frzs:∀b o u,H b=some (.frz o u)->H' b=some (.frz o u)) (tbls:∀b ps,H b=some (.tbl ps)->∃more,H' b=some (.tbl<|ps++more))
  (ns:∀m,s.heap.Ns X.env.locals m->h'.Ns X.env.locals m) (hok:HOk X.prog X.w H' h') (hg:AllBare g'):
  Inv X pins σ H' {s with heap:=h',gens:=g',drawn:=d',toks:=t'}:=by
 have neL:∀b o,X.s₀.heap.get? b=some o->b≠X.env.locals:=λb o e=>bN<|aQ (aP e) I.ok.above
 have neC:∀b o,X.s₀.heap.get? b=some o->b∉X.ex->b∉ch:=λb o e hx hb=>by
  rcases(hch b hb).1 with z|z
  ·exact hx z
  ·exact absurd (aQ (aP e) z)<|eE _
 have cellK:∀x c,X.env.cells.lookup x=some c->∀v,s.heap.IsCell c v->h'.IsCell c v:=λx c e v ⟨o,ho,hd⟩=>by
  have nch:c∉ch:=λz=>(hch c z).2.2.1 x c e rfl
  by_cases hc:c∈X.fs
  ·obtain⟨sl,q⟩:=slot c o (I.cne x c e) hc nch ho<|I.freeC x c e;exact⟨_,q,hd⟩
  ·exact⟨o,keep c o (I.cne x c e) hc nch ho<|I.freeC x c e,hd⟩
 refine⟨I.ok,I.os,hg,⟨λb o e n hb hx=> ?_,λb o e n hb hx=> ?_,λb o e n hx=> ?_,λb o e hx=> ?_,λb xs e=>tups b xs<|I.base.tups b xs e,λb o xs e=>frzs b o xs<|I.base.frzs b o xs e,λb ps e=> ?_⟩, ?_,λx c e=> ?_, ?_,λx c e=> ?_,λp hp=> ?_,hok,I.len⟩
 ·exact keep b o (neL b o e) hb (neC b o e hx) (I.base.keep b o e n hb hx)<|I.base.free b o e n hx
 ·obtain⟨sl,e1⟩:=I.base.slot b o e n hb hx;obtain⟨sl',e2⟩:=slot b _ (neL b o e) hb (neC b o e hx) e1<|I.base.free b o e n hx;exact⟨sl',e2⟩
 ·obtain⟨o',e1⟩:=I.base.there b o e hx;exact free b o' (neC b o e hx) e1<|I.base.free b o e n hx
 ·obtain⟨o',e1⟩:=I.base.there b o e hx;exact there b o' (neC b o e hx) e1
 ·obtain⟨m1,e1⟩:=I.base.tbls b ps e;obtain⟨m2,e2⟩:=tbls b _ e1;exact⟨m1++m2,by rw[e2,Array.append_assoc]⟩
 ·obtain⟨m,hn,hl⟩:=I.loc;refine⟨m,ns m hn,λi x v e1 e2 e3=> ?_⟩;obtain⟨u,r,l⟩:=hl i x v e1 e2 e3;refine⟨u,r, ?_⟩
  rcases l with l|⟨k,c,e,z⟩
  ·exact .inl l
  ·exact .inr ⟨k,c,e,cellK x c e _ z⟩
 ·obtain⟨v,z⟩:=I.cell x c e;exact⟨v,cellK x c e v z⟩
 ·obtain⟨m,⟨o,_,_,ho,_⟩,_⟩:=I.loc;exact free _ o (λz=>(hch _ z).2.1 rfl) ho I.free
 ·obtain⟨v,o,ho,hd⟩:=I.cell x c e;exact free c o (λz=>(hch c z).2.2.1 x c e rfl) ho<|I.freeC x c e
 ·obtain⟨e,n,ne,nf,d⟩:=I.pin p hp;have nch:p.1∉ch:=λz=>(hch p.1 z).2.2.2 p hp rfl
  exact⟨keep p.1 p.2 ne nf nch e n,free p.1 p.2 nch e n,ne,nf,d⟩
theorem Inv.un{t':Nat}(I:Inv X pins σ H s)(u:Un X.fs [] H H' s.heap h')(hok:HOk X.prog X.w H' h'):Inv X pins σ H' {s with heap:=h',toks:=t'}:=by
 obtain⟨m,⟨o,es,ep,ho,r⟩,_⟩:=id I.loc;obtain⟨sl,hL⟩:=u.any ho I.free<|by simp
 exact I.step (g':=s.gens) (d':=s.drawn) (ch:=[]) (fun _ z=>nomatch z) (fun b o _ hb _ e n=>u.keep b o e n hb (by simp)) (fun b o _ hb _ e n=>u.slot b o e n hb (by simp)) (fun b o _ e n=>u.free b o e n (by simp)) (fun b o _ e=>u.there b o e (by simp)) u.tups u.frzs u.tbls (fun m' hm=>by
  obtain⟨o',es',ep',ho',r'⟩:=hm;rw[ho] at ho';cases ho'
  exact⟨_,es',ep',hL,r'⟩) hok I.bare
theorem Inv.call{g':Array GenState}{t':Nat}{d':Drawn}{ch:List BF}(I:Inv X pins σ H s)(u:Un (frs X.stack) ch H H' s.heap h')(hok:HOk X.prog X.w H' h')(hg:AllBare g')
  (hch:∀b∈ch,(b∈X.ex\/X.s₀.heap.objs.size<=b)/\b≠X.env.locals/\(∀x c,X.env.cells.lookup x=some c->c≠b)/\∀p∈X.pn++pins,p.1≠b):
  Inv X pins σ H' {s with heap:=h',gens:=g',drawn:=d',toks:=t'}:=by
 obtain⟨m,⟨o,es,ep,ho,r⟩,_⟩:=id I.loc;obtain⟨sl,hL⟩:=u.any ho I.free λz=>(hch _ z).2.1 rfl
 exact I.step (ch:=ch) hch (fun b o hL hb hc e n=>u.keep b o e n (fun z=>(aR.mp (I.stkSub b z)).elim hL hb) hc) (fun b o _ _ hc e n=>u.any e n hc) (fun b o hc e n=>u.free b o e n hc) (fun b o hc e=>u.there b o e hc) u.tups u.frzs u.tbls (fun m' hm=>by
  obtain⟨o',es',ep',ho',r'⟩:=hm;rw[ho] at ho';cases ho'
  exact⟨_,es',ep',hL,r'⟩) hok hg
theorem Inv.turned{t':Nat}{it:BF}(I:Inv X pins σ H s)(k:∀b o,b≠it->s.heap.get? b=some o->h'.get? b=some o)(hn:H it=none)(hL:it≠X.env.locals)
  (h1:it∈X.ex\/X.s₀.heap.objs.size<=it) (h2:∀x c,X.env.cells.lookup x=some c->c≠it) (h3:∀p∈X.pn++pins,p.1≠it):Inv X pins σ H {s with heap:=h',toks:=t'}:=by
 have nit:∀b u,H b=some u->b≠it:=λb u e z=>by rw[z,hn] at e;cases e
 refine I.step (g':=s.gens) (d':=s.drawn) (ch:=[it]) (λb hb=> ?_) (λb o _ _ hc e _=>k b o (λz=>hc<|by simp[z]) e) (λb o _ _ hc e _=>⟨o.slots,k b o (λz=>hc<|by simp[z]) e⟩) (λ_ _ _ _ n=>n)
  (λb o hc e=>⟨o,k b o (λz=>hc<|by simp[z]) e⟩) (λ_ _ e=>e) (λ_ _ _ e=>e) (λb ps e=>⟨#[],by rw[e];simp⟩) (λm hm=> ?_) (λb u e=> ?_) I.bare
 ·have e:b=it:=by simpa using hb
  subst e;exact⟨h1,hL,h2,h3⟩
 ·obtain⟨o,es,ep,ho,r⟩:=hm;exact⟨o,es,ep,k _ o (Ne.symm hL) ho,r⟩
 ·refine(I.hok b u e).stay (λc v hc q=>k c v ?_ q) (λ_ q=>q) λ_ _ q=>q
  rcases hc with z|z
  ·rw[z];exact nit b u e
  ·exact nit c _ z
theorem Inv.tok(I:Inv X pins σ H s)(t:Nat):Inv X pins σ H {s with toks:=t}:=I.un (h':=s.heap) (t':=t) Un.refl I.hok
theorem Inv.kept{t':Nat}(I:Inv X pins σ H s)(k:∀b u,s.heap.get? b=some u->h'.get? b=some u):Inv X pins σ H {s with heap:=h',toks:=t'}:=I.un (Un.kept k)<|I.hok.kept k
theorem Inv.laid{t':Nat}(I:Inv X pins σ H s)(k:∀b u,s.heap.get? b=some u->h'.get? b=some u)(hp:s.heap.objs.size<=a)(new:ObjOk X.prog X.w (upd H a o) h' a o):
  Inv X pins σ (upd H a o) {s with heap:=h',toks:=t'}:=I.un (Un.laid k hp<|I.hok.fresh hp)<|I.hok.laid k hp new
theorem Inv.write{t':Nat}(I:Inv X pins σ H s)(mu:Mut (H x))(he:e=x\/H e=some (.own x))(k:∀b u,b≠e->s.heap.get? b=some u->h'.get? b=some u)(heo:∃u,h'.get? e=some u)
  (new:ObjOk X.prog X.w (upd H x o) h' x o):Inv X pins σ (upd H x o) {s with heap:=h',toks:=t'}:=I.un (Un.write mu he k heo)<|I.hok.write mu he k heo new
theorem Inv.pins_of{pins':List (BF×BI)}(I:Inv X pins σ H s)(h:∀p∈pins',s.heap.get? p.1=some p.2/\H p.1=none/\p.1≠X.env.locals/\p.1∉X.fs/\∀v,p.2.data≠ .cell v):Inv X pins' σ H s:=
 ⟨I.ok,I.os,I.bare,I.base,I.loc,I.cell,I.free,I.freeC,λp hp=>(aK.mp hp).elim (λz=>I.pin p<|aS _ z)<|h p,I.hok,I.len⟩
theorem uF{N:List Str}(hN:N.Nodup){i j:Nat}{x:Str}(a:N[i]? =some x)(b:N[j]? =some x):i=j:=by obtain⟨h1,e1⟩:=aF.mp a;obtain⟨h2,e2⟩:=aF.mp b;exact(fI hN).mp<|e1.trans e2.symm
theorem aCK{M:Model}{A:BG}{E:BD->BE->Prop}{i:Nat}{x:Str}{v:V}{u:BD}{Q:Unit->BE->Prop}(I:Inv X pins σ H s)(hN:X.N.Nodup)(hi:X.N[i]? =some x)(hx:Loc X.env.scope x)(r:RelV v u)
  (h:∀s',Inv X pins (σ.set i (some v)) H s'->(∃a,Heap.SameBut a s.heap s'.heap/\(a=X.env.locals\/X.env.cells.lookup x=some a))->Q () s') (hf:X.fn x=true\/X.env.scope.names.lookup x=some .local:=by first|exact .inl rfl|exact .inr rfl|assumption):AK M A (storeName X.env x u) Q E s:=by
 obtain⟨m,hn,hl⟩:=id I.loc;have hcls:(X.env.scope.kind==.class||(X.env.scope.kind==.module&&X.env.locals !=X.env.globals))=false:=by rw[I.ok.kind];rfl
 have hiσ:i<σ.length:=by rw[I.len];exact(aF.mp hi).1
 have cne:=I.cne
 have tracked:∀ {a:BF}{h':BH},(∃o,s.heap.get? a=some o/\H a=none)->Heap.SameBut a s.heap h'->HOk X.prog X.w H h':=λ{a h'} ha hs b ob e=>by
  obtain⟨_,_,hfree⟩:=ha;refine(I.hok b ob e).stay (λc w' hc q=>(hs.2 c ?_).trans q) (λ_ q=>q) λ_ _ q=>q
  rintro rfl
  rcases hc with rfl|hc
  ·rw[hfree] at e;cases e
  ·rw[hfree] at hc;cases hc
 rcases hx with hk|hk
 ·refine wpAny_storeName_local hk hn (λh' hn' hs=> ?_) hcls;obtain⟨oL,_,_,hoL,_⟩:=id hn;refine h _ ⟨I.ok,I.os,I.bare,⟨λb o e n hb hx=> ?_,λb o e n hb hx=> ?_,I.base.free,λb o e hx=> ?_,I.base.tups,I.base.frzs,I.base.tbls⟩,⟨_,hn',λj y v' e1 e2 e3=> ?_⟩,λy c e=> ?_,I.free,I.freeC,λp hp=> ?_,tracked ⟨oL,hoL,I.free⟩ hs,by simpa using I.len⟩ ⟨_,hs,.inl rfl⟩
  ·exact(hs.2 b (bN<|aQ (aP e) I.ok.above)).trans<|I.base.keep b o e n hb hx
  ·obtain⟨sl,e1⟩:=I.base.slot b o e n hb hx;exact⟨sl,(hs.2 b (bN<|aQ (aP e) I.ok.above)).trans e1⟩
  ·obtain⟨o',e1⟩:=I.base.there b o e hx;exact⟨o',(hs.2 b (bN<|aQ (aP e) I.ok.above)).trans e1⟩
  ·by_cases hj:j=i
   ·subst hj;rw[hi] at e1;cases e1;rw[fH hiσ] at e2;cases e2;exact⟨u,r,.inl ⟨hk,by simp⟩⟩
   ·rw[gZ<|Ne.symm hj] at e2;obtain⟨u',r',q⟩:=hl j y v' e1 e2 e3;refine⟨u',r', ?_⟩
    rcases q with⟨k,e⟩|⟨k,c,e,z⟩
    ·refine .inl ⟨k, ?_⟩;have:y≠x:=λe=>hj (uF hN e1<|e▸hi)
     simp[this,e]
    ·exact .inr ⟨k,c,e,z.sameBut hs<|cne y c e⟩
  ·obtain⟨w',z⟩:=I.cell y c e;exact⟨w',z.sameBut hs<|cne y c e⟩
  ·obtain⟨e,n,ne,nf,d⟩:=I.pin p hp;exact⟨(hs.2 p.1 ne).trans e,n,ne,nf,d⟩
 ·have hfn:X.fn x=true:=by
   rcases hf with z|z
   ·exact z
   ·rw[z] at hk;cases hk
  obtain⟨c,hc⟩:=I.ok.has x<|.inl hk;obtain⟨w',z⟩:=I.cell x c hc;refine wpAny_storeName_cell I.ok.kind hk hc z λh' hc' hs=> ?_;obtain⟨oc,hoc,hocd⟩:=id z;refine h {s with heap:=h'} ⟨I.ok,I.os,I.bare,⟨λb o e n hb hx=> ?_,λb o e n hb hx=> ?_,I.base.free,λb o e hx=> ?_,I.base.tups,I.base.frzs,I.base.tbls⟩,⟨m,hn.sameBut hs (Ne.symm<|cne x c hc),λj y v' e1 e2 e3=> ?_⟩,λy c' e=> ?_,I.free,I.freeC,λp hp=> ?_,tracked ⟨oc,hoc,I.freeC x c hc⟩ hs,by simpa using I.len⟩ ⟨c,hs,.inr hc⟩
  ·exact(hs.2 b<|bN (aQ (aP e)<|I.ok.cab x c hfn hc)).trans<|I.base.keep b o e n hb hx
  ·obtain⟨sl,e1⟩:=I.base.slot b o e n hb hx;exact⟨sl,(hs.2 b<|bN (aQ (aP e)<|I.ok.cab x c hfn hc)).trans e1⟩
  ·obtain⟨o',e1⟩:=I.base.there b o e hx;exact⟨o',(hs.2 b<|bN (aQ (aP e)<|I.ok.cab x c hfn hc)).trans e1⟩
  ·by_cases hj:j=i
   ·subst hj;rw[hi] at e1;cases e1;rw[fH hiσ] at e2;cases e2;exact⟨u,r,.inr ⟨.inl hk,c,hc,hc'⟩⟩
   ·rw[gZ<|Ne.symm hj] at e2;obtain⟨u',r',q⟩:=hl j y v' e1 e2 e3;refine⟨u',r', ?_⟩
    rcases q with q|⟨k,c',e,z'⟩
    ·exact .inl q
    ·refine .inr ⟨k,c',e,z'.sameBut hs ?_⟩;rintro rfl;exact hj (uF hN e1<|I.ok.inj _ _ _ e hc▸hi)
  ·by_cases hcc:c'=c
   ·subst hcc;exact⟨_,hc'⟩
   ·obtain⟨w2,z2⟩:=I.cell y c' e;exact⟨w2,z2.sameBut hs hcc⟩
  ·obtain⟨e,n,ne,nf,d⟩:=I.pin p hp;refine⟨(hs.2 p.1 ?_).trans e,n,ne,nf,d⟩;intro q;rw[q,hoc] at e;have q':oc=p.2:=bY.inj e;exact d w' (by rw[<-q'];exact hocd)
theorem pY{M:Model}{A:BG}{E:BD->BE->Prop}{i:Nat}{x:Str}{v:V}{u:BD}{Q:Unit->BE->Prop}(I:Inv X pins σ H s)(hN:X.N.Nodup)(hi:X.N[i]? =some x)(hx:Loc X.env.scope x)(r:RelV v u)
  (h:∀s',Inv X pins (σ.set i (some v)) H s'->Q () s') (hf:X.fn x=true\/X.env.scope.names.lookup x=some .local:=by first|exact .inl rfl|exact .inr rfl|assumption):AK M A (storeName X.env x u) Q E s:=
 aCK I hN hi hx r (λs' I' _=>h s' I') hf
theorem Inv.call'{s':BE}{ch:List BF}(I:Inv X pins σ H s)(ho:s'.os=s.os)(u:Un (frs X.stack) ch H H' s.heap s'.heap)(hok:HOk X.prog X.w H' s'.heap)(hg:AllBare s'.gens)
  (hch:∀b∈ch,(b∈X.ex\/X.s₀.heap.objs.size<=b)/\b≠X.env.locals/\(∀x c,X.env.cells.lookup x=some c->c≠b)/\∀p∈X.pn++pins,p.1≠b):Inv X pins σ H' s':=by
 obtain⟨h',g',d',t',o'⟩:=s';have e:o'=s.os:=ho;subst e;exact I.call (g':=g') (t':=t') (d':=d') u hok hg hch
noncomputable abbrev XK:=BD->Option BF->Hp->Prop
noncomputable abbrev St:=List<|Option V
noncomputable abbrev VK:=V->Hp->Prop
noncomputable abbrev TE:=St->Hp->VK->Prop
noncomputable abbrev TT:=St->Hp->(Bool->Hp->Prop)->Prop
noncomputable abbrev TA:=St->Hp->(List V->Hp->Prop)->Prop
structure rN where
 nx:St->Hp->Prop
 rt:VK
 bk:St->Hp->Prop:=λ_ _=>False
 ct:St->Hp->Prop:=λ_ _=>False
noncomputable abbrev TS:=rN->St->Hp->Prop
def EP(X:Cx)(pins:List (BF×BI))(σ:St)(Q:VK)(u:BD)(s':BE):Prop:=∃v H',Inv X pins σ H' s'/\RelV v u/\Q v H'
def TP(X:Cx)(pins:List (BF×BI))(σ:St)(Q:Bool->Hp->Prop)(b:Bool)(s':BE):Prop:=∃H',Inv X pins σ H' s'/\Q b H'
def AP(X:Cx)(pins:List (BF×BI))(σ:St)(Q:List V->Hp->Prop)(us:List BD)(s':BE):Prop:=∃vs H',Inv X pins σ H' s'/\Vals vs us/\Q vs H'
def SP(X:Cx)(pins:List (BF×BI))(D:rN)(f:Flow)(s':BE):Prop:=
 match f with
 |.next=>∃σ' H',Inv X pins σ' H' s'/\D.nx σ' H'
 |.brk=>∃σ' H',Inv X pins σ' H' s'/\D.bk σ' H'
 |.cont=>∃σ' H',Inv X pins σ' H' s'/\D.ct σ' H'
 |.ret u=>∃v σ' H',Inv X pins σ' H' s'/\RelV v u/\D.rt v H'
def PE(X:Cx)(e:Expr)(t:TE):Prop:=
 ∀ (pins:List (BF×BI)) (s:BE) (σ:St) (H:Hp) (Q:VK),Inv X pins σ H s->t σ H Q->AK (AH X.prog X.w) X.A (eval e X.env) (EP X pins σ Q) X.xe s
def PT(X:Cx)(e:Expr)(t:TT):Prop:=
 ∀ (pins:List (BF×BI)) (s:BE) (σ:St) (H:Hp) (Q:Bool->Hp->Prop),Inv X pins σ H s->t σ H Q->AK (AH X.prog X.w) X.A (isTrue e X.env<|eval e X.env) (TP X pins σ Q) X.xe s
def PW(X:Cx)(e:Expr)(t:TT):Prop:=
 ∀ (whole:Sem BD) (pins:List (BF×BI)) (s:BE) (σ:St) (H:Hp) (Q:Bool->Hp->Prop),Inv X pins σ H s->t σ H Q->AK (AH X.prog X.w) X.A (isTrue e X.env whole) (TP X pins σ Q) X.xe s
theorem PW.pt{e:Expr}{t:TT}(h:PW X e t):PT X e t:=h _
def PA(X:Cx)(es:List Expr)(t:TA):Prop:=
 ∀ (pos:Pos) (pins:List (BF×BI)) (s:BE) (σ:St) (H:Hp) (Q:List V->Hp->Prop),Inv X pins σ H s->t σ H Q->AK (AH X.prog X.w) X.A (spliced (Ae pos<|AC es X.env)) (AP X pins σ Q) X.xe s
def PS(X:Cx)(st:BJ)(t:TS):Prop:=
 ∀ (pins:List (BF×BI)) (s:BE) (σ:St) (H:Hp) (D:rN),Inv X pins σ H s->t D σ H->AK (AH X.prog X.w) X.A (exec st X.env) (SP X pins D) X.xe s
def PSs(X:Cx)(st:List BJ)(t:TS):Prop:=
 ∀ (pins:List (BF×BI)) (s:BE) (σ:St) (H:Hp) (D:rN),Inv X pins σ H s->t D σ H->AK (AH X.prog X.w) X.A (execs st X.env) (SP X pins D) X.xe s
theorem thn{α:Type}{t:Sem α}{Q Q':α->BE->Prop}{M:Model}{A:BG}{E:BD->BE->Prop}(h:AK M A t Q E s)(hQ:∀a s,Q a s->Q' a s):AK M A t Q' E s:=AW h hQ λ_ _ x=>x
noncomputable def iX(i:Nat):TE:=λσ H Q=>∃v,σ[i]? =some (some v)/\Q v H
noncomputable def tC(v:V):TE:=λ_ H Q=>Q v H
theorem aKi{i:Nat}{x:Str}{pos:Pos}(hN:X.N[i]? =some x)(hv:Vis X.env.scope x)(hd:(x==("__debug__":Str))=false:=by decide)(hcd:(x==("__classdict__":Str))=false:=by decide):PE X (.Name x pos) (iX i):=by
 intro pins s σ H Q I h;obtain⟨v,e,h⟩:=h;obtain⟨m,hn,hl⟩:=I.loc;obtain⟨u,r,l⟩:=hl i x v hN e hv;have fin:EP X pins σ Q u s:=⟨v,H,I,r,h⟩
 rcases l with⟨hk,hm⟩|⟨hk,c,hc,hcell⟩
 ·exact wpAny_Name (wpAny_loadName_local I.ok.kind hk hn hm fin) hd
 ·rcases hk with hk|hk
  ·exact wpAny_Name (wpAny_loadName_cell I.ok.kind hk hc hcell fin) hd
  ·exact wpAny_Name (wpAny_loadName_free I.ok.kind hk hc hcell fin hcd) hd
theorem pe_int{i j pos}:PE X (.Constant (.int i) j pos) (tC<|.int i):=λ_ _ _ H _ I h=>wpAny_Constant_int ⟨.int i,H,I.tok _,⟨_,rfl⟩,h⟩
theorem pe_bl{b j pos}:PE X (.Constant (.bool b) j pos) (tC<|.bl b):=λ_ _ _ H _ I h=>Constant_bool ⟨.bl b,H,I,rfl,h⟩
theorem pe_str{x j pos}:PE X (.Constant (.str x) j pos) (tC<|.str x):=λ_ _ _ H _ I h=>Calls.Constant_str ⟨.str x,H,I.tok _,⟨_,rfl⟩,h⟩
def Gl(X:Cx)(x:Str):Prop:=X.env.kindOf x=some .globalImplicit
theorem oP{E:BD->BE->Prop}{σ:St}{x:Str}{u:BD}{pos:Pos}{Q:BD->BE->Prop}(I:Inv X pins σ H s)(hg:Gl X x)(hm:X.mg x=some u)(h:Q u s)
  (hd:(x==("__debug__":Str))=false:=by decide):AK (AH X.prog X.w) X.A (eval (.Name x pos) X.env) Q E s:=
 Calls.Name_function_global I.ok.kind hg (Calls.loadGlobal_global (by rw[I.ok.glob];exact I.mod.glob.keeps I.bk) hm h) hd
theorem mL{E:BD->BE->Prop}{σ:St}{x:Str}{u:BD}{pos:Pos}{Q:BD->BE->Prop}(I:Inv X pins σ H s)(hg:Gl X x)(hm:X.mg x=none)(hv:Ac x=some u)(h:Q u s)
  (hn:x≠"__name__":=by decide) (hd:(x==("__debug__":Str))=false:=by decide):AK (AH X.prog X.w) X.A (eval (.Name x pos) X.env) Q E s:=by
 obtain⟨mb,h1,h2⟩:=I.mod.blt;exact Calls.Name_function_global I.ok.kind hg (Calls.loadGlobal_builtin (by rw[I.ok.glob];exact I.mod.glob.keeps I.bk) hm (by rw[I.ok.blt];exact h1.keeps I.bk) ((h2 x hn).trans hv) h) hd
theorem lS{x:Str}{v:V}{u:BD}{pos:Pos}(hg:Gl X x)(hm:X.mg x=some u)(r:RelV v u)(hd:(x==("__debug__":Str))=false:=by decide):PE X (.Name x pos) (tC v):=
 λ_ _ _ H _ I h=>oP I hg hm ⟨v,H,I,r,h⟩ hd
theorem aHy{x:Str}{v:V}{u:BD}{pos:Pos}(hg:Gl X x)(hm:X.mg x=none)(hv:Ac x=some u)(r:RelV v u)(hn:x≠"__name__":=by decide)(hd:(x==("__debug__":Str))=false:=by decide):PE X (.Name x pos) (tC v):=
 λ_ _ _ H _ I h=>mL I hg hm hv ⟨v,H,I,r,h⟩ hn hd
def t2I(ta tb:TE)(k:Int->Int->Hp->Prop):St->Hp->Prop:=λσ H=>ta σ H λx H1=>tb σ H1 λy H2=>∃i j,x=.int i/\y=.int j/\k i j H2
variable {a b:Expr}{ta tb:TE}{pos:Pos}
noncomputable def aIh(p:Int->Int->Bool)(ta tb:TE):TE:=λσ H Q=>t2I ta tb (λi j H2=>Q (.bl<|p i j) H2) σ H
noncomputable abbrev tLt:TE->TE->TE:=aIh λi j=>decide<|i<j
noncomputable abbrev tLe:TE->TE->TE:=aIh λi j=>decide<|i<=j
noncomputable abbrev tGt:TE->TE->TE:=aIh λi j=>decide<|j<i
noncomputable abbrev tGe:TE->TE->TE:=aIh λi j=>decide<|j<=i
noncomputable abbrev tEqI:TE->TE->TE:=aIh λi j=>decide<|i=j
noncomputable abbrev tNeI:TE->TE->TE:=aIh λi j=> !decide (i=j)
noncomputable def tB(t:TE):TT:=λσ H Q=>t σ H λx H1=>∃c,x=.bl c/\Q c H1
theorem aIZ{e:Expr}{t:TE}(h:PE X e t)(he:∀whole,isTrue e X.env whole=(do let v <-whole;standAt e.pos;holding [v] (truthy v)):=by intro _;rfl):PT X e (tB t):=by intro pins s σ H Q I hw;refine isTrue_plain (thn (h pins s σ H _ I hw) λv s1 ⟨x,H1,I1,r1,q1⟩=> ?_)<|he _;obtain⟨d,rfl,q⟩:=q1;cases r1;exact An ⟨H1,I1,q⟩
variable {tA tB':TT}{rest:List Expr}
noncomputable def tAnd(t u:TT):TT:=λσ H Q=>t σ H λc H1=>if c=true then u σ H1 Q else Q false H1
noncomputable def tOr(t u:TT):TT:=λσ H Q=>t σ H λc H1=>if c=true then Q true H1 else u σ H1 Q
noncomputable def tNot(t:TT):TT:=λσ H Q=>t σ H λc H1=>Q (!c) H1
theorem aGM(ha:PT X a tA):PW X (.BoolOp .And [a] pos) tA:=by
 intro wh pins s σ H Q I h;refine isTrue_and<|thn (ha pins s σ H Q I h) λc s1 e=> ?_;cases c with
 |true=>exact isTrue_and_nil e
 |false=>exact e
theorem aKr(ha:PT X a tA):PW X (.BoolOp .Or [a] pos) tA:=by
 intro wh pins s σ H Q I h;refine isTrue_or<|thn (ha pins s σ H Q I h) λc s1 e=> ?_;cases c with
 |false=>exact isTrue_or_nil e
 |true=>exact e
theorem aJy(ha:PT X a tA)(hb:PW X (.BoolOp .And (b::rest) pos) tB'):PW X (.BoolOp .And (a::b::rest) pos) (tAnd tA tB'):=by
 intro wh pins s σ H Q I h;refine isTrue_and<|thn (ha pins s σ H _ I h) λc s1 ⟨H1,I1,q1⟩=> ?_;cases c with
 |true=>exact hb wh pins s1 σ H1 Q I1 q1
 |false=>exact⟨H1,I1,q1⟩
theorem aLn(ha:PT X a tA)(hb:PW X (.BoolOp .Or (b::rest) pos) tB'):PW X (.BoolOp .Or (a::b::rest) pos) (tOr tA tB'):=by
 intro wh pins s σ H Q I h;refine isTrue_or<|thn (ha pins s σ H _ I h) λc s1 ⟨H1,I1,q1⟩=> ?_;cases c with
 |true=>exact⟨H1,I1,q1⟩
 |false=>exact hb wh pins s1 σ H1 Q I1 q1
theorem aJA(ha:PT X a tA):PT X (.UnaryOp .Not a pos) (tNot tA):=by intro pins s σ H Q I h;exact isTrue_not<|ha pins s σ H (λc H1=>Q (!c) H1) I h
noncomputable def aLp(ta tb:TE):TE:=λσ H Q=>ta σ H λx H1=>∃c,x=.bl c/\if c=true then tb σ H1 Q else Q (.bl false) H1
noncomputable def aLv(ta:TE):TE:=λσ H Q=>ta σ H λx H1=>∃c,x=.bl c/\Q (.bl<|!c) H1
theorem aJY{op}{t:TE}(h:PE X a t):PE X (.BoolOp op [a] pos) t:=λpins s σ H Q I hw=>BoolOp_one<|h pins s σ H Q I hw
theorem aKk(ha:PE X a ta)(hb:PE X (.BoolOp .And (b::rest) pos) tb):PE X (.BoolOp .And (a::b::rest) pos) (aLp ta tb):=by
 intro pins s σ H Q I h;refine BoolOp_and<|thn (ha pins s σ H _ I h) λv s1 ⟨x,H1,I1,r1,q1⟩=> ?_;obtain⟨c,rfl,q1⟩:=q1;cases r1;refine An ?_;cases c with
 |true=>exact hb pins s1 σ H1 Q I1 q1
 |false=>exact⟨.bl false,H1,I1,rfl,q1⟩
theorem aKd(ha:PE X a ta):PE X (.UnaryOp .Not a pos) (aLv ta):=by intro pins s σ H Q I h;refine UnaryOp_<|thn (ha pins s σ H _ I h) λv s1 ⟨x,H1,I1,r1,q1⟩=> ?_;obtain⟨c,rfl,q1⟩:=q1;cases r1;exact not_of<|An ⟨.bl<|!c,H1,I1,rfl,q1⟩
def SqL(K:aA)(H:Hp)(a:BF)(xs:List V):Prop:=
 Rd H a (.lst xs)\/
  ∃ (o:BI) (its:Array BD) (n:Nat),K.lookup a=some o/\o.cls=.type "list"/\o.dict=none/\o.data=.seq its n/\its.size<=AL/\Vals xs its.toList
def SqT(K:aA)(H:Hp)(a:BF)(xs:List V):Prop:=
 Rd H a (.tup xs)\/
  ∃ (o:BI) (its:Array BD) (n:Nat),K.lookup a=some o/\o.cls=.type "tuple"/\o.data=.seq its n/\its.size<=AL/\Vals xs its.toList
noncomputable def absV:BD->Option V
 |.none=>some .non
 |.bool b=>some<|.bl b
 |.int i _=>some<|.int i
 |.str x _=>some<|.str x
 |.bytes b _=>some<|.byt b
 |.float b _=>some<|.flt b
 |.ref a=>some<|.ref a
 |.type n=>some<|.ty n
 |_=>none
theorem RelV.abs{x:V}{u:BD}(r:RelV x u):absV u=some x:=by
 cases x with
 |non=>cases r;rfl
 |bl _=>cases r;rfl
 |int _=>obtain⟨t,rfl⟩:=r;rfl
 |str _=>obtain⟨t,rfl⟩:=r;rfl
 |byt _=>obtain⟨t,rfl⟩:=r;rfl
 |flt _=>obtain⟨t,rfl⟩:=r;rfl
 |ref _=>cases r;rfl
 |ty _=>cases r;rfl
theorem RelV.inj{x y:V}{u:BD}(r:RelV x u)(q:RelV y u):x=y:=bY.inj<|r.abs.symm.trans q.abs
theorem Vals.inj:∀ {xs ys:List V}{us:List BD},Vals xs us->Vals ys us->xs=ys
 |_,_,_,.nil,.nil=>rfl
 |_,_,_,.cons r t,.cons r' t'=>by rw[r.inj r',Vals.inj t t']
variable {σ:St}{a:BF}{xs ys:List V}
theorem SqL.of{K:aA}(h:H a=some (.lst xs)):SqL K H a xs:=.inl<|.inl h
theorem SqT.of{K:aA}(h:H a=some (.tup xs)):SqT K H a xs:=.inl<|.inl h
theorem Inv.list(I:Inv X pins σ H s)(h:SqL X.K H a xs):∃its:List BD,Vals xs its/\PlainL s.heap a its.toArray/\xs.length<=AL:=by
 rcases h with h|⟨o,its,n,hk,hc,hd,hs,hz,r⟩
 ·obtain⟨z,its,n,r,e⟩:=h.ok I.hok;exact⟨its,r,⟨_,n,e,rfl,rfl,rfl⟩,z⟩
 ·refine⟨its.toList,r,⟨o,n,I.kIn a o hk,hc,hd,by simpa using hs⟩, ?_⟩;have e:=r.length;simp only[bS] at e;omega
theorem Inv.tuple(I:Inv X pins σ H s)(h:SqT X.K H a xs):∃its:List BD,Vals xs its/\IsTup s.heap a its.toArray/\xs.length<=AL:=by
 rcases h with h|⟨o,its,n,hk,hc,hs,hz,r⟩
 ·obtain⟨z,its,r,p⟩:=h.ok I.hok;exact⟨its,r,p.tup,z⟩
 ·refine⟨its.toList,r,⟨o,I.kIn a o hk,hc,n,by simpa using hs⟩, ?_⟩;have e:=r.length;simp only[bS] at e;omega
theorem Inv.list_inj(I:Inv X pins σ H s)(h:SqL X.K H a xs)(h':SqL X.K H a ys):xs=ys:=by
 obtain⟨its,r,⟨o,n,e,_,_,d⟩,_⟩:=I.list h;obtain⟨its',r',⟨o',n',e',_,_,d'⟩,_⟩:=I.list h';rw[e] at e';cases e';rw[d] at d';injection d' with d1 _
 have:its=its':=by simpa using congrArg aKL d1
 subst this;exact r.inj r'
theorem Inv.tuple_inj(I:Inv X pins σ H s)(h:SqT X.K H a xs)(h':SqT X.K H a ys):xs=ys:=by
 obtain⟨its,r,⟨o,e,_,n,d⟩,_⟩:=I.tuple h;obtain⟨its',r',⟨o',e',_,n',d'⟩,_⟩:=I.tuple h';rw[e] at e';cases e';rw[d] at d';injection d' with d1 _
 have:its=its':=by simpa using congrArg aKL d1
 subst this;exact r.inj r'
noncomputable abbrev Cx.wish(X:Cx)(E:BD->BE->Prop):Cx:={X with xe:=E}
noncomputable abbrev Cx.nox(X:Cx):Cx:=X.wish λ_ _=>False
theorem Cx.Ok.wish(ok:X.Ok)(E:BD->BE->Prop):(X.wish E).Ok:=
 ⟨ok.mod,ok.kind,ok.glob,ok.blt,ok.above,ok.inj,ok.has,ok.cab,ok.hd,ok.frames,ok.stk,ok.exf,ok.bs,ok.bsz,ok.noex,ok.exfs,ok.funs,ok.frf⟩
theorem Cx.Ok.unwish{E:BD->BE->Prop}(ok:(X.wish E).Ok):X.Ok:=
 ⟨ok.mod,ok.kind,ok.glob,ok.blt,ok.above,ok.inj,ok.has,ok.cab,ok.hd,ok.frames,ok.stk,ok.exf,ok.bs,ok.bsz,ok.noex,ok.exfs,ok.funs,ok.frf⟩
variable {E:BD->BE->Prop}
theorem Inv.wish(I:Inv X pins σ H s)(E:BD->BE->Prop):Inv (X.wish E) pins σ H s:=⟨I.ok.wish E,I.os,I.bare,I.base,I.loc,I.cell,I.free,I.freeC,I.pin,I.hok,I.len⟩
theorem Inv.unwish(I:Inv (X.wish E) pins σ H s):Inv X pins σ H s:=⟨I.ok.unwish,I.os,I.bare,I.base,I.loc,I.cell,I.free,I.freeC,I.pin,I.hok,I.len⟩
theorem SP.unwish{D:rN}{f:Flow}{s':BE}(h:SP (X.wish E) pins D f s'):SP X pins D f s':=by
 cases f with
 |next=>obtain⟨σ',H',I,q⟩:=h;exact⟨σ',H',I.unwish,q⟩
 |brk=>obtain⟨σ',H',I,q⟩:=h;exact⟨σ',H',I.unwish,q⟩
 |cont=>obtain⟨σ',H',I,q⟩:=h;exact⟨σ',H',I.unwish,q⟩
 |ret u=>obtain⟨v,σ',H',I,r,q⟩:=h;exact⟨v,σ',H',I.unwish,r,q⟩
theorem PSs.nox{st:List BJ}{t:TS}(h:PSs X.nox st t):PSs X st t:=λpins s σ H D I hw=>AW (h pins s σ H D (I.wish _) hw) (λ_ _ q=>q.unwish) λ_ _ z=>False.elim z
variable {st:BJ}{rest:List BJ}{t u:TS}{e:Expr}{te:TE}
noncomputable def aLc:TS:=λD σ H=>D.nx σ H
noncomputable def tSeq(t u:TS):TS:=λD σ H=>t {D with nx:=u D} σ H
theorem pss_nil:PSs X [] aLc:=λ_ _ σ H _ I h=>wpAny_execs_nil ⟨σ,H,I,h⟩
theorem aDE(h1:PS X st t)(h2:PSs X rest u):PSs X (st::rest) (tSeq t u):=by
 intro pins s σ H D I h;refine wpAny_execs_cons<|thn (h1 pins s σ H {D with nx:=u D} I h) λf s1 q=> ?_;cases f with
 |next=>obtain⟨σ',H',I',q⟩:=q;exact h2 pins s1 σ' H' D I' q
 |ret v=>exact q
 |brk=>exact q
 |cont=>exact q
theorem aHl(h1:PS X st t):PSs X [st] t:=by
 intro pins s σ H D I h;refine wpAny_execs_cons<|thn (h1 pins s σ H D I h) λf s1 q=> ?_;cases f with
 |next=>exact wpAny_execs_nil q
 |ret v=>exact q
 |brk=>exact q
 |cont=>exact q
theorem Inv.quiet(I:Inv X pins σ H s):interactive X.env=false:=by simp[interactive,I.ok.kind]
noncomputable def aLe(te:TE):TS:=λD σ H=>te σ H λ_ H1=>D.nx σ H1
theorem nG(he:PE X e te)(hs:AV e none pos.line X.env=pure false:=by rfl):PS X (.Expr e pos) (aLe te):=by intro pins s σ H D I h;exact wpAny_Expr_any (thn (he pins s σ H _ I h) λv s1 ⟨x,H1,I1,r1,q1⟩=>⟨σ,H1,I1,q1⟩) I.quiet hs
noncomputable def tRet(te:TE):TS:=λD σ H=>te σ H D.rt
theorem aFy(he:PE X e te):PS X (.Return (some e) pos) (tRet te):=by intro pins s σ H D I h;exact wpAny_Return_some<|thn (he pins s σ H _ I h) λv s1 ⟨x,H1,I1,r1,q1⟩=>⟨x,σ,H1,I1,r1,q1⟩
noncomputable def tIfS(c:TT)(t u:TS):TS:=λD σ H=>c σ H λb H1=>if b=true then t D σ H1 else u D σ H1
theorem aLC{c:Expr}{a b:List BJ}{tc:TT}(hc:PT X c tc)(ha:PSs X a t)(hb:PSs X b u):PS X (.If c a b pos) (tIfS tc t u):=by
 intro pins s σ H D I h;refine wpAny_If<|thn (hc pins s σ H _ I h) λd s1 ⟨H1,I1,q1⟩=> ?_;cases d with
 |true=>exact ha pins s1 σ H1 D I1 q1
 |false=>exact hb pins s1 σ H1 D I1 q1
noncomputable abbrev TG:=V->St->Hp->(St->Hp->Prop)->Prop
noncomputable abbrev TGs:=List V->St->Hp->(St->Hp->Prop)->Prop
def PG(X:Cx)(target:Expr)(t:TG):Prop:=
 ∀ (pins:List (BF×BI)) (s:BE) (σ:St) (H:Hp) (v:V) (u:BD) (Q:St->Hp->Prop),Inv X pins σ H s->RelV v u->t v σ H Q->
  AK (AH X.prog X.w) X.A (assign target X.env u) (λ_ s'=>∃σ' H',Inv X pins σ' H' s'/\Q σ' H') X.xe s
def PGs(X:Cx)(ts:List Expr)(t:TGs):Prop:=
 ∀ (pins:List (BF×BI)) (s:BE) (σ:St) (H:Hp) (vs:List V) (us:List BD) (Q:St->Hp->Prop),Inv X pins σ H s->Vals vs us->t vs σ H Q->
  AK (AH X.prog X.w) X.A (assignInOrder ((assignEach ts X.env).map (·.2)) us) (λ_ s'=>∃σ' H',Inv X pins σ' H' s'/\Q σ' H') X.xe s
noncomputable abbrev TSet:=V->V->V->Hp->(Hp->Prop)->Prop
noncomputable abbrev TIp:=V->V->Hp->VK->Prop
noncomputable def aAV(i:Nat):TG:=λv σ H Q=>Q (σ.set i (some v)) H
theorem aBX{i:Nat}{x:Str}(hN:X.N.Nodup)(hi:X.N[i]? =some x)(hx:Loc X.env.scope x)(hf:X.fn x=true\/X.env.scope.names.lookup x=some .local:=by first|exact .inl rfl|exact .inr rfl|assumption):PG X (.Name x pos) (aAV i):=by intro pins s σ H v u Q I r h;exact wpAny_assign_Name<|pY I hN hi hx r (λs' I'=>⟨_,H,I',h⟩) hf
noncomputable def aLO:TGs:=λvs σ H Q=>vs=[]/\Q σ H
noncomputable def aIG(t:TG)(u:TGs):TGs:=λvs σ H Q=>∃v r,vs=v::r/\t v σ H λσ' H'=>u r σ' H' Q
theorem nF:PGs X [] aLO:=by intro pins s σ H vs us Q I r h;obtain⟨e,h⟩:=h;subst e;cases r;exact assignInOrder_nil ⟨σ,H,I,h⟩
theorem fW{es:List Expr}{t:TG}{u:TGs}(h1:PG X e t)(h2:PGs X es u)
  (hs:(assignEach (e::es) X.env).map (·.2)=assign e X.env::(assignEach es X.env).map (·.2):=by rfl):PGs X (e::es) (aIG t u):=by
 intro pins s σ H vs us Q I r h;obtain⟨v,vr,e1,h⟩:=h;subst e1;cases r with
 |cons r rr=>rw[hs];refine assignInOrder_cons<|thn (h1 pins s σ H _ _ _ I r h) λ_ s1 ⟨σ1,H1,I1,q1⟩=> ?_;exact h2 pins s1 σ1 H1 _ _ Q I1 rr q1
noncomputable def gTup(K:aA)(n:Nat)(t:TGs):TG:=λv σ H Q=>∃a xs,v=.ref a/\SqT K H a xs/\xs.length=n/\t xs σ H Q
theorem aKm{es:List Expr}{k:Nat}{t:TGs}{n:Nat}(hc:X.calm=true)(h:PGs X es t)
  (hn:(assignEach es X.env).length=n:=by rfl) (hst:(assignEach es X.env).findIdx? (·.1)=none:=by rfl):PG X (.Tuple es k pos) (gTup X.K n t):=by
 intro pins s σ H v u Q I r hw;obtain⟨a,xs,e1,hq,hl,hw⟩:=hw;subst e1;cases r;obtain⟨its,rv,ht,hz⟩:=I.tuple hq;refine assign_Tuple_tuple (I.ok.hd hc) ht (by simp[hn,<-hl,rv.length]) hst λh' hx=> ?_
 have I1:Inv X pins σ H {s with heap:=h'}:=I.kept (t':=s.toks) λb o e=>hx b o (bN<|aP e) e
 exact h pins _ σ H xs _ Q I1 (by simpa using rv) hw
noncomputable def tAsg(te:TE)(g:TG):TS:=λD σ H=>te σ H λx H1=>g x σ H1 D.nx
theorem mK{i:Nat}{x:Str}{pos':Pos}(hN:X.N.Nodup)(hi:X.N[i]? =some x)(hx:Loc X.env.scope x)(he:PE X e te)(hs:AV e (some<|.Name x pos') pos.line X.env=pure false:=by rfl)(hf:X.fn x=true\/X.env.scope.names.lookup x=some .local:=by first|exact .inl rfl|exact .inr rfl|assumption):
  PS X (.Assign [.Name x pos'] e pos) (tAsg te<|aAV i):=by
 intro pins s σ H D I h;refine wpAny_Assign_Name (thn (he pins s σ H _ I h) λv s1 ⟨y,H1,I1,r1,q1⟩=> ?_) hs;exact pY I1 hN hi hx r1 (λs2 I2=>⟨_,H1,I2,q1⟩) hf
noncomputable def aJE(c:TT)(tb:TS):TS:=λD σ H=>∃W:Nat->St->Hp->Prop,(∃m,W m σ H)/\∀m σ H,W m σ H->
 c σ H λb H1=>if b=true then ∃N:St->Hp->Prop,(∀σ' H',N σ' H'->∃m',m'<m/\W m' σ' H')/\tb {D with nx:=N,ct:=N,bk:=D.nx} σ H1 else D.nx σ H1
theorem aEd{c:Expr}{body:List BJ}{tc:TT}{tb:TS}(hp:PassesOwn (AH X.prog X.w) X.A X.env X.xe)(hc:PT X c tc)(hb:PSs X body tb):PS X (.While c body [] pos) (aJE tc tb):=by
 intro pins s σ H D I h;obtain⟨W,⟨m0,w0⟩,turn⟩:=h;refine wpAny_While<|codeAny_whileLoop (λn s'=>∃σ' H',Inv X pins σ' H' s'/\W n σ' H') ?_ m0 ⟨σ,H,I,w0⟩;rintro n s1 ⟨σ1,H1,I1,w1⟩;refine Am hp<|thn (hc pins s1 σ1 H1 _ I1<|turn n σ1 H1 w1) λb s2 ⟨H2,I2,q2⟩=> ?_;cases b with
 |true=>
  obtain⟨N,hN,q2⟩:=q2;rw[if_pos rfl];refine Am hp<|thn (hb pins s2 σ1 H2 _ I2 q2) λf s3 q3=> ?_;cases f with
  |next=>obtain⟨σ3,H3,I3,n3⟩:=q3;obtain⟨m',hm,w3⟩:=hN σ3 H3 n3;exact⟨m',hm,σ3,H3,I3,w3⟩
  |cont=>obtain⟨σ3,H3,I3,n3⟩:=q3;obtain⟨m',hm,w3⟩:=hN σ3 H3 n3;exact⟨m',hm,σ3,H3,I3,w3⟩
  |brk=>exact q3
  |ret v=>exact q3
 |false=>rw[if_neg aZ];exact wpAny_execs_nil ⟨σ1,H2,I2,q2⟩
structure It where
 go:Nat->Hp->Prop
 yld:Nat->Hp->V->Hp->Prop
 stop:Nat->Hp->Prop
def tT(X:Cx)(pins:List (BF×BI))(H:Hp)(b:BF):Prop:=
 H b=none/\b≠X.env.locals/\b∉X.fs/\(b∈X.ex\/X.s₀.heap.objs.size<=b)/\(∀x c,X.env.cells.lookup x=some c->c≠b)/\∀p∈X.pn++pins,p.1≠b
theorem Inv.fpOk{b:BF}(I:Inv X pins σ H s)(hb:s.heap.objs.size<=b)(hn:H' b=none):tT X pins H' b:=by
 refine⟨hn,jB<|aQ I.lt hb,I.nofs hb,.inr<|cC I.sz hb,λx c e z=> ?_,λp hp z=> ?_⟩
 ·obtain⟨v,q⟩:=I.cell x c e;exact absurd (aQ q.lt<|by rw[z];exact hb)<|eE _
 ·exact absurd (aQ (aP (I.pin p hp).1)<|by rw[z];exact hb)<|eE _
structure aFT(P:AF)(w:AM)(K:aA)(tg:Expr)(J:It)(fp:List BF)(it:BF)(tn:Nat->BH->Prop):Prop where
 mem:it∈fp
 obj:∀i h,tn i h->∀b∈fp,∃o,h.get? b=some o/\∀v,o.data≠ .cell v
 keep:∀i h h',tn i h->(∀b∈fp,∀o,h.get? b=some o->h'.get? b=some o)->tn i h'
 item:∀ (X:Cx),X.prog=P->X.w=w->X.K=K->X.calm=true->∀ (i:Nat) (pins:List (BF×BI)) (s:BE) (σ:St) (H:Hp) (E:BD->BE->Prop),Inv X pins σ H s->(∀b∈fp,tT X pins H b)->tn i s.heap->J.go i H->
  AK (AH P w) X.A (pyNext (.ref it)) (fun r s1=>∃u,r=some u∧
   AK (AH P w) X.A (letOwnedTupleGo tg (.ref it) u) (λ_ s2=>∃x H',Inv X pins σ H' s2/\RelV x u/\J.yld i H x H'/\tn (i+1) s2.heap/\∀b∈fp,H' b=none) E s1) E s
 done:∀ (X:Cx),X.prog=P->X.w=w->X.K=K->X.calm=true->∀ (i:Nat) (pins:List (BF×BI)) (s:BE) (σ:St) (H:Hp) (E:BD->BE->Prop),Inv X pins σ H s->(∀b∈fp,tT X pins H b)->tn i s.heap->J.stop i H->
  AK (AH P w) X.A (pyNext<|.ref it) (λr s1=>r=none/\Inv X pins σ H s1) E s
 self:∀ (A:BG) (i:Nat) (s:BE) (Q:BD->BE->Prop) (E:BD->BE->Prop),tn i s.heap->Q (.ref it) s->AK (AH P w) A (pyIter<|.ref it) Q E s
noncomputable abbrev TI:=St->Hp->(It->Hp->Prop)->Prop
def PIE(X:Cx)(pins:List (BF×BI))(σ:St)(tg:Expr)(R:It->Hp->Prop)(itv:BD)(s2:BE):Prop:=
 ∃ (it:BF) (fp:List BF) (tn:Nat->BH->Prop) (J:It) (H':Hp),itv=.ref it/\Inv X pins σ H' s2/\aFT X.prog X.w X.K tg J fp it tn/\tn 0 s2.heap/\(∀b∈fp,tT X pins H' b)/\R J H'
def PI(X:Cx)(tg iter:Expr)(wi:TI):Prop:=
 ∀ (pins:List (BF×BI)) (s:BE) (σ:St) (H:Hp) (R:It->Hp->Prop),Inv X pins σ H s->wi σ H R->
  AK (AH X.prog X.w) X.A (eval iter X.env) (λv s1=>AK (AH X.prog X.w) X.A (pyIter v) (PIE X pins σ tg R) X.xe s1) X.xe s
theorem aGc{M:Model}{A:BG}{tg:Expr}{it:BF}{u:BD}{o:BI}{n:String}{vs:Array BD}{Q:Unit->BE->Prop}(ho:s.heap.get? it=some o)(hc:o.cls=.type n)(hd:o.data=.fields vs)
  (hn:["enumerate","zip","dict_itemiterator","dict_reverseitemiterator","odict_iterator","itertools.zip_longest","itertools.pairwise"].contains n=false) (hQ:Q () s):AK M A (letOwnedTupleGo tg (.ref it) u) Q E s:=by
 unfold letOwnedTupleGo
 cases tg<;>first
  |exact AB hQ
  | (cases u<;>first
    |exact AB hQ
    | (refine AA (wpAny_load ho ?_)
       rw[hc,hd];show AK M A (if(["enumerate","zip","dict_itemiterator","dict_reverseitemiterator","odict_iterator","itertools.zip_longest","itertools.pairwise"].contains n&&vs[0]? ==some (rawInt _))=true then _ else _) Q E s;rw[if_neg<|by intro h;rw[hn,wJ] at h;cases h]
       exact AB hQ))
noncomputable def Itl(K:aA)(a:BF):It:=
 ⟨λi H=>∃xs x,SqL K H a xs/\xs[i]? =some x,λi H x H'=>H'=H/\∀xs,SqL K H a xs->xs[i]? =some x,λi H=>∃xs,SqL K H a xs/\xs.length<=i⟩
noncomputable def Itt(K:aA)(a:BF):It:=
 ⟨λi H=>∃xs x,SqT K H a xs/\xs[i]? =some x,λi H x H'=>H'=H/\∀xs,SqT K H a xs->xs[i]? =some x,λi H=>∃xs,SqT K H a xs/\xs.length<=i⟩
noncomputable def Itr(lo:Int)(n:Nat):It:=⟨λi _=>i<n,λi H x H'=>H'=H/\x=.int (lo+i),λi _=>n<=i⟩
theorem aCh{K:aA}{tg:Expr}(a it:BF):aFT P w K tg (Itl K a) [it] it (λi h=>h.IsListIter it a i) where
 mem:=by simp
 obj:=λi h st b hb=>by
  have e:b=it:=by simpa using hb
  subst e;obtain⟨o,e,c,d⟩:=st;exact⟨o,e,λv z=>by rw[d] at z;cases z⟩
 keep:=λi h h' st k=>st.at λo e=>k it (by simp) o e
 item:=by
  intro X hP hw hK hc i pins s σ H E I hf st hg;subst hP hw hK;obtain⟨xs,x,hq,hx⟩:=hg;obtain⟨its,rv,p,hz⟩:=I.list hq;obtain⟨u,hu,ru⟩:=rv.get hx;obtain⟨f0,f1,f2,f3,f4,f5⟩:=hf it (by simp);refine wpAny_pyNext_list_item st p.isList (x:=u) (by simpa using hu) λh' st' sb=> ?_
  have I1:Inv X pins σ H {s with heap:=h'}:=I.turned (t':=s.toks) (λb o hb e=>(sb.2 b hb).trans e) f0 f1 f3 f4 f5;obtain⟨o,e,c,d⟩:=id st';exact⟨u,rfl,aGc (s:={s with heap:=h'}) e c d (by decide) ⟨x,H,I1,ru,⟨rfl,λys hy=>by rw[I.list_inj hy hq];exact hx⟩,st',λb hb=>(hf b hb).1⟩⟩
 done:=by intro X hP hw hK hc i pins s σ H E I hf st hg;subst hP hw hK;obtain⟨xs,hq,hx⟩:=hg;obtain⟨its,rv,p,hz⟩:=I.list hq;obtain⟨f0,f1,f2,f3,f4,f5⟩:=hf it (by simp);have hl:=rv.length;exact wpAny_pyNext_list_end (I.ok.hd hc) st p.isList (by simp;omega) λh' eb=>⟨rfl,I.turned (t':=s.toks) (λb o hb e=>eb b o hb e) f0 f1 f3 f4 f5⟩
 self:=λ_ _ _ _ _ st h=>wpAny_pyIter_listiter st h
theorem aAs{K:aA}{tg:Expr}(a it:BF):aFT P w K tg (Itt K a) [it] it (λi h=>h.IsTupleIter it a i) where
 mem:=by simp
 obj:=λi h st b hb=>by
  have e:b=it:=by simpa using hb
  subst e;obtain⟨o,e,c,d⟩:=st;exact⟨o,e,λv z=>by rw[d] at z;cases z⟩
 keep:=λi h h' st k=>st.at λo e=>k it (by simp) o e
 item:=by
  intro X hP hw hK hc i pins s σ H E I hf st hg;subst hP hw hK;obtain⟨xs,x,hq,hx⟩:=hg;obtain⟨its,rv,p,hz⟩:=I.tuple hq;obtain⟨u,hu,ru⟩:=rv.get hx;obtain⟨f0,f1,f2,f3,f4,f5⟩:=hf it (by simp);refine wpAny_pyNext_tuple_item st (show s.heap.IsTuple a its.toArray from p) (x:=u) (by simpa using hu) λh' st' sb=> ?_
  have I1:Inv X pins σ H {s with heap:=h'}:=I.turned (t':=s.toks) (λb o hb e=>(sb.2 b hb).trans e) f0 f1 f3 f4 f5;obtain⟨o,e,c,d⟩:=id st';exact⟨u,rfl,aGc (s:={s with heap:=h'}) e c d (by decide) ⟨x,H,I1,ru,⟨rfl,λys hy=>by rw[I.tuple_inj hy hq];exact hx⟩,st',λb hb=>(hf b hb).1⟩⟩
 done:=by intro X hP hw hK hc i pins s σ H E I hf st hg;subst hP hw hK;obtain⟨xs,hq,hx⟩:=hg;obtain⟨its,rv,p,hz⟩:=I.tuple hq;obtain⟨f0,f1,f2,f3,f4,f5⟩:=hf it (by simp);have hl:=rv.length;exact wpAny_pyNext_tuple_end (I.ok.hd hc) st (show s.heap.IsTuple a its.toArray from p) (by simp;omega) λh' eb=>⟨rfl,I.turned (t':=s.toks) (λb o hb e=>eb b o hb e) f0 f1 f3 f4 f5⟩
 self:=λ_ _ _ _ _ st h=>wpAny_pyIter_tupleiter st h
theorem aAu{K:aA}{tg:Expr}(it:BF)(lo:Int)(n:Nat):aFT P w K tg (Itr lo n) [it] it (λi h=>IsRangeIter h it (lo+(i:Nat)*1) ((n:Int)-(i:Nat)) 1) where
 mem:=by simp
 obj:=λi h st b hb=>by
  have e:b=it:=by simpa using hb
  subst e
  exact ⟨_,st,fun v z=>by
   have z':Data.fields _=Data.cell v:=z
   cases z'⟩
 keep:=λi h h' st k=>k it (by simp) _ st
 item:=by
  intro X hP hw hK hc i pins s σ H E I hf st hg;subst hP hw hK;obtain⟨f0,f1,f2,f3,f4,f5⟩:=hf it (by simp);have W:=Walks.range (prog:=X.prog) (w:=X.w) (I.ok.hd hc) it lo 1 n;refine W.item i s _ _ hg st λv h' tk hv st' kk=> ?_
  obtain⟨t,rfl⟩:=hv;have I1:Inv X pins σ H {s with heap:=h',toks:=tk}:=I.turned (λb o hb e=>kk b o (by simpa using hb) e) f0 f1 f3 f4 f5;refine⟨_,rfl,aGc (s:={s with heap:=h',toks:=tk}) (n:="range_iterator") st' rfl rfl (by decide) ⟨.int<|lo+i,H,I1,⟨t, ?_⟩,⟨rfl,rfl⟩,st',λb hb=>(hf b hb).1⟩⟩;rw[Int.mul_one]
 done:=by intro X hP hw hK hc i pins s σ H E I hf st hg;subst hP hw hK;obtain⟨f0,f1,f2,f3,f4,f5⟩:=hf it (by simp);exact wpAny_pyNext_range_end (I.ok.hd hc) st (by have:n<=i:=hg;omega) λh' eb=>⟨rfl,I.turned (t':=s.toks) (λb o hb e=>eb b o hb e) f0 f1 f3 f4 f5⟩
 self:=λ_ _ _ _ _ st h=>wpAny_pyIter_rangeiter st h
variable {tg:Expr}
noncomputable def aLD(K:aA)(tl:TE):TI:=λσ H R=>tl σ H λx H1=>∃a,x=.ref a/\(∃xs,SqL K H1 a xs)/\R (Itl K a) H1
noncomputable def iTup(K:aA)(tl:TE):TI:=λσ H R=>tl σ H λx H1=>∃a,x=.ref a/\(∃xs,SqT K H1 a xs)/\R (Itt K a) H1
theorem aHB{l:Expr}{tl:TE}(hl:PE X l tl):PI X tg l (aLD X.K tl):=by
 intro pins s σ H R I h;refine thn (hl pins s σ H _ I h) λv s1 ⟨x,H1,I1,r1,q1⟩=> ?_
 obtain⟨a,e,⟨xs,hq⟩,q⟩:=q1;subst e;cases r1;obtain⟨its,rv,p,hz⟩:=I1.list hq;refine wpAny_pyIter_list p.isList ?_;refine⟨s1.heap.objs.size,[s1.heap.objs.size],_,_,H1,rfl,I1.kept (t':=s1.toks) λb o e=>aJ _ e,aCh a _,⟨_,bO _ rfl,rfl,rfl⟩,λb hb=> ?_,q⟩;have e:b=s1.heap.objs.size:=by simpa using hb
 subst e;exact I1.fpOk (aO _) (I1.hok.fresh<|aO _)
theorem aJw{l:Expr}{tl:TE}(hl:PE X l tl):PI X tg l (iTup X.K tl):=by
 intro pins s σ H R I h;refine thn (hl pins s σ H _ I h) λv s1 ⟨x,H1,I1,r1,q1⟩=> ?_
 obtain⟨a,e,⟨xs,hq⟩,q⟩:=q1;subst e;cases r1;obtain⟨its,rv,p,hz⟩:=I1.tuple hq;refine wpAny_pyIter_tuple (show s1.heap.IsTuple a its.toArray from p) ?_;refine⟨s1.heap.objs.size,[s1.heap.objs.size],_,_,H1,rfl,I1.kept (t':=s1.toks) λb o e=>aJ _ e,aAs a _,⟨_,bO _ rfl,rfl,rfl⟩,λb hb=> ?_,q⟩;have e:b=s1.heap.objs.size:=by simpa using hb
 subst e;exact I1.fpOk (aO _) (I1.hok.fresh<|aO _)
theorem aDX{R:It->Hp->Prop}{lo hi:Int}{t u v:Tok}{tk:Nat}(I:Inv X pins σ H s)(h1: -(2^62)<=lo)(h2:lo<2^62)(h3: -(2^62)<=hi)(h4:hi<2^62)
  (q:R (Itr lo (hi-lo).toNat) H):AK (AH X.prog X.w) X.A (pyIter<|.ref s.heap.objs.size) (PIE X pins σ tg R) E {s with heap:=s.heap.push {cls:=.type "range",data:=.fields #[.int lo t,.int hi u,.int 1 v]},toks:=tk}:=by
 refine wpAny_pyIter_range (IsRange.new ..) (small_one h1 h2 h3 h4) ?_;have I1:Inv X pins σ H {s with heap:=s.heap.push {cls:=.type "range",data:=.fields #[.int lo t,.int hi u,.int 1 v]},toks:=tk}:=I.kept λb o e=>aJ _ e
 refine ⟨(s.heap.push {cls:= .type "range",data:= .fields #[.int lo t, .int hi u, .int 1 v]}).objs.size,[(s.heap.push {cls:= .type "range",data:= .fields #[.int lo t, .int hi u, .int 1 v]}).objs.size],_,_,H,rfl,
  I1.kept (t':=tk) λb o e=>aJ _ e,aAu _ lo (hi-lo).toNat, ?_,λb hb=> ?_,q⟩
 ·have e1:lo+((0:Nat):Int)*1=lo:=by simp
  have e2:(((hi-lo).toNat:Nat):Int)-((0:Nat):Int)=Builtin.Range.rangeSize lo hi 1:=by rw[rangeSize_one];split<;>omega
  show IsRangeIter _ _ (lo+((0:Nat):Int)*1) ((((hi-lo).toNat:Nat):Int)-((0:Nat):Int)) 1;rw[e1,e2];exact bO _ rfl
 ·have e:b=(s.heap.push {cls:=.type "range",data:=.fields #[.int lo t,.int hi u,.int 1 v]}).objs.size:=by simpa using hb
  subst e;exact I1.fpOk (aO _) (I1.hok.fresh<|aO _)
noncomputable def aLq(ta:TA):TI:=λσ H R=>ta σ H λvs H1=>∃j:Int,vs=[.int j]/\ -(2^62)<=j/\j<2^62/\R (Itr 0 j.toNat) H1
theorem aCZ{a:Expr}{ta:TA}{p:Pos}(hg:Gl X "range")(hm:X.mg "range"=none)(ha:PA X [a] ta)(hs:AC [a] X.env=[(false,eval a X.env)]:=by rfl):PI X tg (.Call (.Name "range" p) [a] [] pos) (aLq ta):=by
 intro pins s σ H R I h;refine Call_ (mL I hg hm boot_range<|PyProof.Rows.callWith_type1 (thn (ha pos pins s σ H _ I h) λus s1 ⟨vs,H1,I1,r1,q1⟩=> ?_) hs rfl);obtain⟨j,e,q1,q2,q⟩:=q1;subst e;cases r1 with
 |cons r rr=>cases rr;obtain⟨t,rfl⟩:=r;exact call_range_1 (aDX I1 (by omega) (by omega) q1 q2<|by simpa using q)
noncomputable def tFor(wi:TI)(g:TG)(tb:TS):TS:=λD σ H=>wi σ H λJ H1=>∃W:Nat->Nat->St->Hp->Prop,(∃m,W 0 m σ H1)/\∀i m σ H,W i m σ H->
 (J.stop i H/\D.nx σ H)\/(J.go i H/\∃N:St->Hp->Prop,(∀σ' H',N σ' H'->∃m',m'<m/\W (i+1) m' σ' H')/\∀x H',J.yld i H x H'->g x σ H' λσ2 H2=>tb {D with nx:=N,ct:=N,bk:=D.nx} σ2 H2)
noncomputable def lW(fp:List BF)(h:BH):List (BF×BI):=fp.filterMap λb=>(h.get? b).map λo=>(b,o)
theorem iI{fp:List BF}{b:BF}{o:BI}(hb:b∈fp)(e:h.get? b=some o):(b,o)∈lW fp h:=aER.mpr ⟨b,hb,by rw[e];rfl⟩
theorem qQ{fp:List BF}{p:BF×BI}(hp:p∈lW fp h):p.1∈fp/\h.get? p.1=some p.2:=by
 obtain⟨b,hb,e⟩:=aER.mp hp;cases q:h.get? b with
 |none=>rw[q] at e;cases e
 |some o=>rw[q] at e;have e':(b,o)=p:=bY.inj e;subst e';exact⟨hb,q⟩
theorem Inv.pinned{fp:List BF}(I:Inv X pins σ H s)(hf:∀b∈fp,tT X pins H b)(ho:∀b∈fp,∃o,s.heap.get? b=some o/\∀v,o.data≠ .cell v):Inv X (pins++lW fp s.heap) σ H s:=
 I.pins_of λp hp=>(aK.mp hp).elim (λz=>I.pin p<|aH _ z) λz=>by obtain⟨hb,e⟩:=qQ z;obtain⟨f0,f1,f2,_⟩:=hf p.1 hb;obtain⟨o,e',d⟩:=ho p.1 hb;rw[e] at e';cases e';exact⟨e,f0,f1,f2,d⟩
theorem Inv.unpinned{pl:List (BF×BI)}(I:Inv X (pins++pl) σ H s):Inv X pins σ H s:=I.pins_of λp hp=>I.pin p (aH _<|aS _ hp)
theorem aFt{iter:Expr}{body:List BJ}{wi:TI}{g:TG}{tb:TS}(hp:PassesOwn (AH X.prog X.w) X.A X.env X.xe)(hc:X.calm=true)(hi:PI X tg iter wi)(hg:PG X tg g)(hb:PSs X body tb)
  (hs:∀x,Ao iter X.env x=pure x:=by intro _;rfl):PS X (.For tg iter body [] pos) (tFor wi g tb):=by
 intro pins s σ H D I h;refine wpAny_For (thn (hi pins s σ H _ I h) λv s1 h1=>thn h1 λitv s2 h2=> ?_) hs;obtain⟨it,fp,tn,J,H2,e,I2,T,st2,f2,W,⟨m0,w0⟩,turn⟩:=h2;subst e
 have stat:∀ {H':Hp},(∀b∈fp,H' b=none)->∀b∈fp,tT X pins H' b:=λhn b hb=>⟨hn b hb,(f2 b hb).2⟩
 refine codeAny_forLoop_any (λn s'=>∃i σ' H',Inv X pins σ' H' s'/\tn i s'.heap/\(∀b∈fp,H' b=none)/\W i n σ' H') ?_ m0 ⟨0,σ,H2,I2,st2,λb hb=>(f2 b hb).1,w0⟩;rintro n s3 ⟨i,σ3,H3,I3,st3,fr3,w3⟩
 rcases turn i n σ3 H3 w3 with⟨stop,qn⟩|⟨go,N,hN,step⟩
 ·refine Am hp<|thn (T.done X rfl rfl rfl hc i pins s3 σ3 H3 X.xe I3 (stat fr3) st3 stop) λr s4 ⟨hr,I4⟩=> ?_;subst hr;exact wpAny_execs_nil ⟨σ3,H3,I4,qn⟩
 ·refine Am hp<|thn (T.item X rfl rfl rfl hc i pins s3 σ3 H3 X.xe I3 (stat fr3) st3 go) λr s4 ⟨u,hr,h4⟩=> ?_;subst hr;refine Am hp<|thn h4 λ_ s5 ⟨x,H5,I5,r5,y5,st5,fr5⟩=> ?_;have I5':=I5.pinned (stat fr5)<|T.obj _ _ st5;refine Am hp<|thn (hg _ s5 σ3 H5 x u _ I5' r5<|step x H5 y5) λ_ s6 ⟨σ6,H6,I6,q6⟩=> ?_;refine Am hp (thn (hb _ s6 σ6 H6 _ I6 q6) λf s7 q7=> ?_)
  have again:∀ {σ7:St}{H7:Hp},Inv X (pins++lW fp s5.heap) σ7 H7 s7->N σ7 H7->∃m,m<n/\∃i σ' H',Inv X pins σ' H' s7/\tn i s7.heap/\(∀b∈fp,H' b=none)/\W i m σ' H':=λ{σ7 H7} I7 n7=>by obtain⟨m',hm,w7⟩:=hN σ7 H7 n7;refine⟨m',hm,i+1,σ7,H7,I7.unpinned,T.keep _ _ _ st5 λb hb o e=>(I7.pin (b,o)<|aH _ (aH _<|iI hb e)).1,λb hb=> ?_,w7⟩;obtain⟨o,e,d⟩:=T.obj _ _ st5 b hb;exact(I7.pin (b,o)<|aH _ (aH _<|iI hb e)).2.1
  cases f with
  |next=>obtain⟨σ7,H7,I7,n7⟩:=q7;exact again I7 n7
  |cont=>obtain⟨σ7,H7,I7,n7⟩:=q7;exact again I7 n7
  |brk=>obtain⟨σ7,H7,I7,q7⟩:=q7;exact⟨σ7,H7,I7.unpinned,q7⟩
  |ret v=>obtain⟨x7,σ7,H7,I7,r7,q7⟩:=q7;exact⟨x7,σ7,H7,I7.unpinned,r7,q7⟩
noncomputable abbrev R2:=V->V->Hp->VK->Prop
def OpR(X:Cx)(f:BD->BD->Sem BD)(r:R2):Prop:=
 ∀ (pins:List (BF×BI)) (s:BE) (σ:St) (H:Hp) (x y:V) (v u:BD) (Q:VK),Inv X pins σ H s->RelV x v->RelV y u->r x y H Q->
  AK (AH X.prog X.w) X.A (f v u) (EP X pins σ Q) X.xe s
def UnR(X:Cx)(f:BD->Sem BD)(r:V->Hp->VK->Prop):Prop:=
 ∀ (pins:List (BF×BI)) (s:BE) (σ:St) (H:Hp) (x:V) (v:BD) (Q:VK),Inv X pins σ H s->RelV x v->r x H Q->
  AK (AH X.prog X.w) X.A (f v) (EP X pins σ Q) X.xe s
def kI(X:Cx)(f:BD)(r:List V->Hp->VK->Prop):Prop:=
 ∀ (pins:List (BF×BI)) (s:BE) (σ:St) (H:Hp) (xs:List V) (us:List BD) (Q:VK),Inv X pins σ H s->Vals xs us->r xs H Q->
  AK (AH X.prog X.w) X.A (call f us) (EP X pins σ Q) X.xe s
noncomputable def tOp(r:R2)(ta tb:TE):TE:=λσ H Q=>ta σ H λx H1=>tb σ H1 λy H2=>r x y H2 Q
noncomputable def tUn(r:V->Hp->VK->Prop)(ta:TE):TE:=λσ H Q=>ta σ H λx H1=>r x H1 Q
noncomputable def rI(C:Int->Int->Prop)(g:Int->Int->V):R2:=λx y H Q=>∃i j,x=.int i/\y=.int j/\C i j/\Q (g i j) H
noncomputable def rI0(g:Int->Int->V):R2:=λx y H Q=>∃i j,x=.int i/\y=.int j/\Q (g i j) H
def rU(g:Int->V):V->Hp->VK->Prop:=λx H Q=>∃i,x=.int i/\Q (g i) H
variable {a c:Expr}{tc:TE}
theorem aKR(ha:PE X a ta)(hb:PE X b tb){R:V->V->Hp->Prop}(I:Inv X pins σ H s)
  (h:ta σ H λx H1=>tb σ H1 λy H2=>R x y H2) {Q:BD->BE->Prop}{f:BD->BD->Sem BD}
  (hf:∀v u s2 x y H2,Inv X pins σ H2 s2->RelV x v->RelV y u->R x y H2->AK (AH X.prog X.w) X.A (f v u) Q X.xe s2):
  AK (AH X.prog X.w) X.A (eval a X.env) (λv s₁=>AK (AH X.prog X.w) X.A (eval b X.env) (λu s₂=>AK (AH X.prog X.w) X.A (f v u) Q X.xe s₂) X.xe s₁) X.xe s:=by
 refine thn (ha pins s σ H _ I h) λv s1 ⟨x,H1,I1,r1,q1⟩=> ?_
 refine thn (hb pins s1 σ H1 _ I1 q1) λu s2 ⟨y,H2,I2,r2,q2⟩=> ?_
 exact hf v u s2 x y H2 I2 r1 r2 q2
theorem aLh{op:Operator}{r:R2}(ho:OpR X (Ah op) r)(ha:PE X a ta)(hb:PE X b tb):PE X (.BinOp a op b pos) (tOp r ta tb):=by intro pins s σ H Q I h;exact wpAny_BinOp<|aKR ha hb I h λv u s2 x y H2 I2 rx ry q=>ho pins s2 σ H2 x y v u Q I2 rx ry q
theorem aLm{op:UnaryOp}{r:V->Hp->VK->Prop}(ho:UnR X (unaryOp op) r)(ha:PE X a ta):PE X (.UnaryOp op a pos) (tUn r ta):=by intro pins s σ H Q I h;exact UnaryOp_<|thn (ha pins s σ H _ I h) λv s1 ⟨x,H1,I1,r1,q1⟩=>ho pins s1 σ H1 x v Q I1 r1 q1
theorem opI{f:BD->BD->Sem BD}{C:Int->Int->Prop}{g:Int->Int->Int}
  (rule:∀ (i j:Int) (t u:Tok) (s:BE) (Q:BD->BE->Prop) (E:BD->BE->Prop),C i j->Q (.int (g i j) s.toks) {s with toks:=s.toks+1}->AK (AH X.prog X.w) X.A (f (.int i t)<|.int j u) Q E s):
  OpR X f (rI C λi j=>.int<|g i j):=by
 intro pins s σ H x y v u Q I rx ry h;obtain⟨i,j,rfl,rfl,hc,q⟩:=h;obtain⟨t,rfl⟩:=rx;obtain⟨t',rfl⟩:=ry;exact rule i j t t' s _ _ hc ⟨.int<|g i j,H,I.tok _,⟨_,rfl⟩,q⟩
theorem aIt{f:BD->BD->Sem BD}{g:Int->Int->Int}
  (rule:∀ (i j:Int) (t u:Tok) (s:BE) (Q:BD->BE->Prop) (E:BD->BE->Prop),Q (.int (g i j) s.toks) {s with toks:=s.toks+1}->AK (AH X.prog X.w) X.A (f (.int i t)<|.int j u) Q E s):
  OpR X f (rI0 λi j=>.int<|g i j):=by
 intro pins s σ H x y v u Q I rx ry h;obtain⟨i,j,rfl,rfl,q⟩:=h;obtain⟨t,rfl⟩:=rx;obtain⟨t',rfl⟩:=ry;exact rule i j t t' s _ _ ⟨.int<|g i j,H,I.tok _,⟨_,rfl⟩,q⟩
theorem aKC{f:BD->BD->Sem BD}{g:Int->Int->Bool}
  (rule:∀ (i j:Int) (t u:Tok) (s:BE) (Q:BD->BE->Prop) (E:BD->BE->Prop),Q (.bool<|g i j) s->AK (AH X.prog X.w) X.A (f (.int i t)<|.int j u) Q E s):
  OpR X f (rI0 λi j=>.bl<|g i j):=by
 intro pins s σ H x y v u Q I rx ry h;obtain⟨i,j,rfl,rfl,q⟩:=h;obtain⟨t,rfl⟩:=rx;obtain⟨t',rfl⟩:=ry;exact rule i j t t' s _ _ ⟨.bl<|g i j,H,I,rfl,q⟩
def CDiv(i j:Int):Prop:=0<j/\j<1073741824
def CPow(i j:Int):Prop:=0<=j/\j<=1000000/\i.natAbs<2^64
def CMul(i j:Int):Prop:=(-(2^64)<i/\i<2^64)\/(-(2^64)<j/\j<2^64)
theorem CMul.ok{i j:Int}(h:CMul i j):IntMulOk i j:=by
 rcases h with⟨h1,h2⟩|⟨h1,h2⟩
 ·exact .of_left<|intBits_le_64 h1 h2
 ·exact .of_right<|intBits_le_64 h1 h2
theorem iJ:OpR X (Ah .Add) (rI0 λi j=>.int<|i+j):=aIt λ_ _ _ _ _ _ _ q=>add_int q
theorem qP:OpR X (Ah .Sub) (rI0 λi j=>.int<|i-j):=aIt λ_ _ _ _ _ _ _ q=>sub_int q
theorem aJO:OpR X (Ah .Mult) (rI CMul λi j=>.int<|i*j):=opI λ_ _ _ _ _ _ _ hc q=>mul_int q hc.ok
theorem aHI:OpR X (Ah .FloorDiv) (rI CDiv λi j=>.int<|i / j):=opI λi j _ _ _ _ _ hc q=>by have h1:(0:Int)<j:=hc.1;have h2:j<1073741824:=hc.2;exact floordiv_int (by omega) (by rw[yO i<|by omega];exact q)<|.inl (PyProof.noPylong_small<|by omega)
theorem gE:OpR X (Ah .Mod) (rI (λ_ j=>0<j) λi j=>.int<|i%j):=opI λi j _ _ _ _ _ hc q=>by have h1:(0:Int)<j:=hc;exact mod_int' (by omega) (by rw[Int.fmod_eq_emod_of_nonneg i<|by omega];exact q)
theorem aFx:OpR X (Ah .LShift) (rI CPow λi j=>.int<|i*2^j.toNat):=opI λ_ _ _ _ _ _ _ hc q=>lshift_int_small hc.1 hc.2.1 hc.2.2 q
theorem aFD:OpR X (Ah .BitAnd) (rI0 λi j=>.int<|Builtin.bitAnd i j):=aIt λ_ _ _ _ _ _ _ q=>and_int q
theorem aIO:OpR X (Ah .BitOr) (rI0 λi j=>.int<|Builtin.bitOr i j):=aIt λ_ _ _ _ _ _ _ q=>or_int q
theorem aFB:OpR X (Ah .BitXor) (rI0 λi j=>.int<|Builtin.bitXor i j):=aIt λ_ _ _ _ _ _ _ q=>xor_int q
theorem unI{f:BD->Sem BD}{g:Int->Int}
  (rule:∀ (i:Int) (t:Tok) (s:BE) (Q:BD->BE->Prop) (E:BD->BE->Prop),Q (.int (g i) s.toks) {s with toks:=s.toks+1}->AK (AH X.prog X.w) X.A (f<|.int i t) Q E s):
  UnR X f (rU λi=>.int<|g i):=by
 intro pins s σ H x v Q I rx h;obtain⟨i,rfl,q⟩:=h;obtain⟨t,rfl⟩:=rx;exact rule i t s _ _ ⟨.int<|g i,H,I.tok _,⟨_,rfl⟩,q⟩
theorem aJo:UnR X (unaryOp .USub) (rU λi=>.int (-i)):=unI λ_ _ _ _ _ q=>neg_int q
noncomputable def aKz:V->V->Bool
 |.non,.non=>true | .non,.int _=>true | .int _,.non=>true | .non,.bl _=>true | .bl _,.non=>true | .non,.str _=>true | .str _,.non=>true
 |.int _,.int _=>true | .bl _,.bl _=>true | .str _,.str _=>true | .byt _,.byt _=>true
 |.int _,.str _=>true | .str _,.int _=>true | .bl _,.str _=>true | .str _,.bl _=>true
 |_,_=>false
noncomputable def rEq:R2:=λx y H Q=>aKz x y=true/\Q (.bl (decide<|x=y)) H
noncomputable def rNe:R2:=λx y H Q=>aKz x y=true/\Q (.bl<|!decide (x=y)) H
theorem oZ{i j:Int}:decide (V.int i=V.int j)=(i==j):=by rw[iQ];simp
theorem aEV{i j:Bool}:decide (V.bl i=V.bl j)=(i==j):=by rw[iQ];simp
theorem aBu{i j:Str}:decide (V.str i=V.str j)=(i==j):=by rw[iQ];simp
theorem aBw{i j:Array UInt8}:decide (V.byt i=V.byt j)=(i.toList==j.toList):=by rw[iQ];cases i;cases j;simp
theorem dZ{Q:VK}{k k':Bool}(I:Inv X pins σ H s)(q:Q (.bl k) H)(e:k=k'):EP X pins σ Q (.bool k') s:=by subst e;exact⟨.bl k,H,I,rfl,q⟩
theorem aIX:OpR X (Ad .Eq) rEq:=by
 intro pins s σ H x y v u Q I rx ry h;obtain⟨hs,q⟩:=h;cases x with
 |non=>
  cases rx;cases y with
  |non=>cases ry;exact PySem.EqNone.eq_none_none (dZ I q<|by simp)
  |bl j=>cases ry;exact PySem.EqNone.eq_none_bool (dZ I q<|by simp)
  |int j=>obtain⟨t',rfl⟩:=ry;exact PySem.EqNone.eq_none_int (dZ I q<|by simp)
  |str j=>obtain⟨t',rfl⟩:=ry;exact PySem.EqNone.eq_none_str (dZ I q<|by simp)
  |_=>exact absurd (show false=true from hs) aZ
 |bl i=>
  cases rx;cases y with
  |non=>cases ry;exact PySem.EqNone.eq_bool_none (dZ I q<|by simp)
  |bl j=>cases ry;exact eq_bool<|dZ I q aEV
  |str j=>obtain⟨t',rfl⟩:=ry;exact PySem.EqMixed.eq_bool_str (dZ I q<|by simp)
  |_=>exact absurd (show false=true from hs) aZ
 |int i=>
  obtain⟨t,rfl⟩:=rx;cases y with
  |non=>cases ry;exact PySem.EqNone.eq_int_none (dZ I q<|by simp)
  |int j=>obtain⟨t',rfl⟩:=ry;exact eq_int<|dZ I q oZ
  |str j=>obtain⟨t',rfl⟩:=ry;exact PySem.EqMixed.eq_int_str (dZ I q<|by simp)
  |_=>exact absurd (show false=true from hs) aZ
 |str i=>
  obtain⟨t,rfl⟩:=rx;cases y with
  |non=>cases ry;exact PySem.EqNone.eq_str_none (dZ I q<|by simp)
  |bl j=>cases ry;exact PySem.EqMixed.eq_str_bool (dZ I q<|by simp)
  |int j=>obtain⟨t',rfl⟩:=ry;exact PySem.EqMixed.eq_str_int (dZ I q<|by simp)
  |str j=>obtain⟨t',rfl⟩:=ry;exact eq_str<|dZ I q aBu
  |_=>exact absurd (show false=true from hs) aZ
 |byt i=>
  obtain⟨t,rfl⟩:=rx;cases y with
  |byt j=>obtain⟨t',rfl⟩:=ry;exact PySem.W.eq_bytes<|dZ I q aBw
  |_=>exact absurd (show false=true from hs) aZ
 |_=>cases y<;>exact absurd (show false=true from hs) aZ
theorem aLf:OpR X (Ad .NotEq) rNe:=by
 intro pins s σ H x y v u Q I rx ry h;obtain⟨hs,q⟩:=h;cases x with
 |non=>
  cases rx;cases y with
  |non=>cases ry;exact PySem.EqNone.ne_none_none (dZ I q<|by simp)
  |bl j=>cases ry;exact PySem.EqNone.ne_none_bool (dZ I q<|by simp)
  |int j=>obtain⟨t',rfl⟩:=ry;exact PySem.EqNone.ne_none_int (dZ I q<|by simp)
  |str j=>obtain⟨t',rfl⟩:=ry;exact PySem.EqNone.ne_none_str (dZ I q<|by simp)
  |_=>exact absurd (show false=true from hs) aZ
 |bl i=>
  cases rx;cases y with
  |non=>cases ry;exact PySem.EqNone.ne_bool_none (dZ I q<|by simp)
  |bl j=>cases ry;exact ne_bool (dZ I q<|congrArg not aEV)
  |str j=>obtain⟨t',rfl⟩:=ry;exact PySem.EqMixed.ne_bool_str (dZ I q<|by simp)
  |_=>exact absurd (show false=true from hs) aZ
 |int i=>
  obtain⟨t,rfl⟩:=rx;cases y with
  |non=>cases ry;exact PySem.EqNone.ne_int_none (dZ I q<|by simp)
  |int j=>obtain⟨t',rfl⟩:=ry;exact ne_int (dZ I q<|congrArg not oZ)
  |str j=>obtain⟨t',rfl⟩:=ry;exact PySem.EqMixed.ne_int_str (dZ I q<|by simp)
  |_=>exact absurd (show false=true from hs) aZ
 |str i=>
  obtain⟨t,rfl⟩:=rx;cases y with
  |non=>cases ry;exact PySem.EqNone.ne_str_none (dZ I q<|by simp)
  |bl j=>cases ry;exact PySem.EqMixed.ne_str_bool (dZ I q<|by simp)
  |int j=>obtain⟨t',rfl⟩:=ry;exact PySem.EqMixed.ne_str_int (dZ I q<|by simp)
  |str j=>obtain⟨t',rfl⟩:=ry;exact ne_str (dZ I q<|congrArg not aBu)
  |_=>exact absurd (show false=true from hs) aZ
 |byt i=>
  obtain⟨t,rfl⟩:=rx;cases y with
  |byt j=>obtain⟨t',rfl⟩:=ry;exact PySem.W.ne_bytes (dZ I q<|congrArg not aBw)
  |_=>exact absurd (show false=true from hs) aZ
 |_=>cases y<;>exact absurd (show false=true from hs) aZ
theorem aIN:OpR X (Ad .Lt) (rI0 λi j=>.bl (decide<|i<j)):=aKC λ_ _ _ _ _ _ _ q=>lt_int q
theorem aGr:OpR X (Ad .LtE) (rI0 λi j=>.bl (decide<|i<=j)):=aKC λ_ _ _ _ _ _ _ q=>le_int q
theorem aIy:OpR X (Ad .Gt) (rI0 λi j=>.bl (decide<|j<i)):=aKC λ_ _ _ _ _ _ _ q=>gt_int q
theorem aLl:OpR X (Ad .GtE) (rI0 λi j=>.bl (decide<|j<=i)):=aKC λ_ _ _ _ _ _ _ q=>ge_int q
theorem OpR.or{f:BD->BD->Sem BD}{r r':R2}(h:OpR X f r)(h':OpR X f r'):OpR X f (λx y H Q=>r x y H Q\/r' x y H Q):=by
 intro pins s σ H x y v u Q I rx ry q
 rcases q with q|q
 ·exact h pins s σ H x y v u Q I rx ry q
 ·exact h' pins s σ H x y v u Q I rx ry q
theorem jK(b:Expr){op:CmpOp}(h:op≠ .In:=by decide)(h2:op≠ .NotIn:=by decide):Ab op b=false:=by
 have e1:(op==CmpOp.In)=false:=by cases op<;>first|rfl|exact absurd rfl h
 have e2:(op==CmpOp.NotIn)=false:=by cases op<;>first|rfl|exact absurd rfl h2
 cases b<;>simp[Ab,e1,e2]
theorem aHK{op:CmpOp}{r:R2}(ho:OpR X (Ad op) r)(ha:PE X a ta)(hb:PE X b tb)(hm:Ab op b=false):PE X (.Compare a [op] [b] pos) (tOp r ta tb):=by intro pins s σ H Q I h;exact wpAny_Compare1 (aKR ha hb I h λv u s2 x y H2 I2 rx ry q=>ho pins s2 σ H2 x y v u Q I2 rx ry q) hm
noncomputable def aLG(t:TE):TT:=λσ H Q=>t σ H λx H'=>∃k,x=.bl k/\Q k H'
theorem xN{op:CmpOp}{r:R2}(ho:OpR X (Ad op) r)(ha:PE X a ta)(hb:PE X b tb)(hm:Ab op b=false):PT X (.Compare a [op] [b] pos) (aLG<|tOp r ta tb):=by
 intro pins s σ H Q I h
 refine wpAny_isTrue_Compare1 (thn (ha pins s σ H _ I h) λv s1 ⟨x,H1,I1,r1,q1⟩=>thn (hb pins s1 σ H1 _ I1 q1) λu s2 ⟨y,H2,I2,r2,q2⟩=>thn (ho pins s2 σ H2 x y v u _ I2 r1 r2 q2) λc s3 ⟨z,H3,I3,r3,k,e,q3⟩=> ?_) hm
 subst e;cases r3;exact An ⟨H3,I3,q3⟩
theorem aBp:(AL:Nat)<2^63:=by rw[Ap];decide
theorem rD{x:V}{us:List BD}(r:Vals [x] us):∃u,us=[u]/\RelV x u:=by
 cases r with
 |cons r1 r2=>cases r2;exact⟨_,rfl,r1⟩
theorem aGp{x y:V}{us:List BD}(r:Vals [x,y] us):∃u w',us=[u,w']/\RelV x u/\RelV y w':=by
 cases r with
 |cons r1 r2=>
  cases r2 with
  |cons r3 r4=>cases r4;exact⟨_,_,rfl,r1,r3⟩
structure ObjM(h:BH)(x dx C:BF)(mA:Str->Option BD):Prop where
 obj:h.get? x=some (rV C dx)
 ns:h.Ns1 dx mA
 ne:dx≠x
theorem aCJ{dx:BF}{mA:Str->Option BD}(n:h.Ns1 dx mA):∃od,h.get? dx=some od/\∀name,uR name od=some (mA name):=by
 obtain⟨o,es,ep,ho,hd,hk,_,hm⟩:=n;refine⟨o,ho,λname=> ?_⟩;have e:=hm name;unfold nsFind findBy at e;rw[<-Array.find?_toList] at e;unfold uR;rw[hd];dsimp only
 split
 ·rename_i y q;rw[q] at e;exact congrArg some e
 ·rename_i q;rw[q] at e
  have a:es.toList.any (·.refKey)=false:=by rw[aFO];intro y hy;obtain⟨z,t,hkey⟩:=hk y<|Array.mem_toList_iff.mp hy;simp[DictEntry.refKey,hkey]
  have a':¬ es.toList.any (·.refKey)=true:=by rw[a];exact aZ
  rw[if_neg a'];exact congrArg some e
theorem ObjM.look{dx C:BF}{mA:Str->Option BD}(I:ObjM h x dx C mA):∃od,PySem.W.InstAt h x (rV C dx) C (some od)/\∀name,uR name od=some (mA name):=
 let ⟨od,ho,hl⟩:=aCJ I.ns
 ⟨od,⟨I.obj,rfl,rfl,ho⟩,hl⟩
theorem RelO.some_of{v:V}{o:Option BD}(r:RelO (some v) o):∃u,o=some u/\RelV v u:=by
 cases o with
 |none=>exact(show False from r).elim
 |some u=>exact⟨u,rfl,r⟩
variable {a C dx:BF}{fs fs':List (Str×V)}
theorem aHh(hok:HOk P w H h)(e:H a=some (.ins C dx fs)):∃mA,ObjM h a dx C mA/\(∀f,RelO (fs.lookup f)<|mA f)/\PySem.Within mA (fs.map (·.1))/\fs.length<=1000/\H dx=some (.own a):=by obtain⟨d,z,ne,ob,mA,n,r,q⟩:=(show ObjOk P w H h a (.ins C dx fs) from hok a _ e);exact⟨mA,⟨ob,n,ne⟩,r,q,z,d⟩
structure Cls(K:aA)(C:BF):Prop where
 pg:aDv K C Str.empty=true
 hd:PySem.W.hasDictIn K C=true
 po:PySem.W.plainOver K C=true
 sa:gA K (.ref C) "__setattr__"=some (some<|.builtin "object.__setattr__")
theorem Cls.get{K:aA}(c:Cls K C)(f:Str):aDv K C f=true:=c.pg
structure Con(K:aA)(C:BF)(f:Str)(v:V)(u:BD):Prop where
 at_:gA K (.ref C) f=some (some u)
 rel:RelV v u
 get:aDo K u "__get__"=some none
 cp:PySem.W.copiedNames.contains f=false
structure Meth(K:aA)(C:BF)(m:Str)(f:BF):Prop where
 at_:gA K (.ref C) m=some (some<|.ref f)
 fn:aIo K (.ref f)=true
 kp:eO K (.ref f)=true
variable {A:BG}{Q:BD->BE->Prop}{c:BD}{b:Bool}
inductive pA(K:aA)(H:Hp):V->BD->Prop where
 |non:pA K H .non (.type "NoneType")
 |bl (x:Bool):pA K H (.bl x) (.type "bool")
 |int (i:Int):pA K H (.int i) (.type "int")
 |str (x:Str):pA K H (.str x) (.type "str")
 |flt (x:UInt64):pA K H (.flt x) (.type "float")
 |lst {a:BF}{xs:List V} (e:H a=some (.lst xs)):pA K H (.ref a) (.type "list")
 |frz {a:BF}{o:BI}{xs:List V} (e:H a=some (.frz o<|.lst xs)):pA K H (.ref a) (.type "list")
 |tup {a:BF}{xs:List V} (e:H a=some (.tup xs)):pA K H (.ref a) (.type "tuple")
 |dK {a:BF}{kvs:List (Key×V)} (e:Rd H a (.dK kvs)):pA K H (.ref a) (.type "dict")
 |dT {a:BF}{kvs:List (List Key×V)} (e:H a=some (.dT kvs)):pA K H (.ref a) (.type "dict")
 |ins {a C dx:BF}{fs:List (Str×V)} (e:H a=some (.ins C dx fs)) (cl:Cls K C) (ha:gA K (.ref C) "__class__"=some (some<|.builtin "object.__class__"))
   (hn:aDo K (.builtin "object.__class__") "__get__"=some (some<|.builtin "getset_descriptor.__get__")) (htk:PySem.W.takesIn K (.builtin "object.__class__")=some true)
   (hm:aIe K C (.type "object")=some true):pA K H (.ref a) (.ref C)
theorem aDd{x:V}{u t:BD}(I:Inv X pins σ H s)(rx:RelV x u)(ty:pA X.K H x t)(e:bP X.K t c=some b)(h:∀tk,Q (.bool b) {s with toks:=tk}):
  AK (AH X.prog X.w) A (call (.builtin "isinstance") [u,c]) Q E s:=by
 cases ty with
 |non=>cases(show u=Value.none from rx);exact dO PySem.W.kitx_none I.kIn True.intro e (λz=>nomatch z) h
 |bl y=>cases(show u=Value.bool y from rx);exact dO PySem.W.kitx_bool I.kIn True.intro e (λz=>nomatch z) h
 |int i=>obtain⟨t,q⟩:=(show ∃t,u=Value.int i t from rx);cases q;exact dO PySem.W.kitx_int I.kIn True.intro e (λz=>nomatch z) h
 |str y=>obtain⟨t,q⟩:=(show ∃t,u=Value.str y t from rx);cases q;exact dO PySem.W.kitx_str I.kIn True.intro e (λz=>nomatch z) h
 |flt y=>obtain⟨t,q⟩:=(show ∃t,u=Value.float y t from rx);cases q;exact dO PySem.W.kitx_float I.kIn True.intro e (λz=>nomatch z) h
 |@lst a xs ea=>cases(show u=Value.ref a from rx);obtain⟨_,_,n,_,h1⟩:=(show ObjOk X.prog X.w H s.heap a (.lst xs) from I.hok a _ ea);exact dO aDp I.kIn ⟨_,h1,rfl⟩ e (λz=>nomatch z) h
 |@frz a ob xs ea=>cases(show u=Value.ref a from rx);obtain⟨_,_,_,n,_,h1⟩:=(show ObjOk X.prog X.w H s.heap a (.frz ob<|.lst xs) from I.hok a _ ea);exact dO aDp I.kIn ⟨_,h1,rfl⟩ e (λz=>nomatch z) h
 |@tup a xs ea=>cases(show u=Value.ref a from rx);obtain⟨_,_,_,p⟩:=(show ObjOk X.prog X.w H s.heap a (.tup xs) from I.hok a _ ea);obtain⟨o,h1,h2,_⟩:=p;exact dO PySem.W.kitx_tuple I.kIn ⟨o,h1,h2⟩ e (λz=>nomatch z) h
 |@dK a kvs ea=>cases(show u=Value.ref a from rx);obtain⟨_,_,vs,_,p⟩:=(show ObjOk X.prog X.w H s.heap a (.dK kvs) from ea.ok I.hok);obtain⟨o,es,ep,h1,h2,_⟩:=p;exact dO aDq I.kIn ⟨o,h1,h2.1⟩ e (λz=>nomatch z) h
 |@dT a kvs ea=>cases(show u=Value.ref a from rx);obtain⟨_,_,xs,_,o,es,ep,h1,h2,_⟩:=(show ObjOk X.prog X.w H s.heap a (.dT kvs) from I.hok a _ ea);exact dO aDq I.kIn ⟨o,h1,h2.1⟩ e (λz=>nomatch z) h
 |@ins a C dx fs ea cl ha hn htk hm=>cases(show u=Value.ref a from rx);obtain⟨mA,O,_⟩:=aHh I.hok ea;obtain⟨od,J,_⟩:=O.look;exact dO (PySem.W.kitx_own (cl.get _) cl.hd ha hn htk hm) I.kIn J e (λz=>nomatch z) h
structure Room(k:Nat)(A:BG):Prop where
 hd:A.handled=none
 dp:A.depth+3*k+5<recursionLimit
 un:A.units+16*k+200<AQ
 gd:A.guards=some []
theorem Room.mono{j k:Nat}(r:Room k A)(h:j<=k):Room j A:=⟨r.hd,by have:=r.dp;omega,by have:=r.un;omega,r.gd⟩
theorem Room.deeper{k:Nat}(r:Room (k+1) A)(env:Env):Room k (A.deeper env):=
 ⟨r.hd,by have:=r.dp;show A.depth+1+3*k+5<_;omega,by have:=r.un;show A.units+3+16*k+200<_;omega,r.gd⟩
theorem Room.depth{k:Nat}(r:Room k A):A.depth<recursionLimit:=by have:=r.dp;omega
noncomputable def sT:TA:=λ_ H Q=>Q [] H
noncomputable def kH(ta:TE)(tr:TA):TA:=λσ H Q=>ta σ H λx H1=>tr σ H1 λxs H2=>Q (x::xs) H2
variable {es:List Expr}{t:TA}
theorem pa_nil:PA X [] sT:=λ_ _ _ _ H Q I h=>Calls.spliced_nil ⟨[],H,I,.nil,h⟩
theorem dE(ha:PE X e te)(hr:PA X es t)(hs:AC (e::es) X.env=(false,eval e X.env)::AC es X.env:=by rfl):PA X (e::es) (kH te t):=by intro pos pins s σ H Q I h;rw[hs];show AK _ _ (spliced ((false,eval e X.env)::Ae pos (AC es X.env))) _ _ s;refine Calls.spliced_cons<|thn (ha pins s σ H _ I h) λu s1 ⟨x,H1,I1,r1,q1⟩=> ?_;exact thn (hr pos pins s1 σ H1 _ I1 q1) λus s2 ⟨xs,H2,I2,r2,q2⟩=>⟨x::xs,H2,I2,.cons r1 r2,q2⟩
noncomputable def aLR(t:TA):TE:=λσ H Q=>t σ H λxs H1=>xs.length<=AL/\∀p,H1 p=none->Q (.ref p) (upd H1 p<|.tup xs)
noncomputable def tLst(t:TA):TE:=λσ H Q=>t σ H λxs H1=>xs.length<=AL/\∀p,H1 p=none->Q (.ref p) (upd H1 p<|.lst xs)
theorem aBh{x1}(h:PA X es t):PE X (.Tuple es x1 pos) (aLR t):=by intro pins s σ H Q I hq;refine wpAny_Tuple_spliced<|thn (h pos pins s σ H _ I hq) λus s1 ⟨xs,H1,I1,r,z,q⟩=>⟨by rw[<-r.length];exact z, ?_⟩;have hf:H1 s1.heap.objs.size=none:=I1.hok.fresh<|aO _;refine⟨.ref s1.heap.objs.size,upd H1 s1.heap.objs.size<|.tup xs,I1.laid (t':=s1.toks) (λb u e=>aJ _ e) (aO _) ?_,rfl,q _ hf⟩;exact⟨z,us,r,IsTupD.new _ _⟩
theorem aJJ(h:PA X es t):PE X (.List es pos) (tLst t):=by intro pins s σ H Q I hq;refine wpAny_List_spliced<|thn (h pos pins s σ H _ I hq) λus s1 ⟨xs,H1,I1,r,z,q⟩=>⟨by rw[<-r.length];exact z, ?_⟩;have hf:H1 s1.heap.objs.size=none:=I1.hok.fresh<|aO _;refine⟨.ref s1.heap.objs.size,upd H1 s1.heap.objs.size<|.lst xs,I1.laid (t':=s1.toks) (λb u e=>aJ _ e) (aO _) ?_,rfl,q _ hf⟩;exact⟨z,us,0,r,bO _ rfl⟩
noncomputable abbrev Sp:=List V->Hp->VK->XK->Prop
noncomputable abbrev CXT:=List Env->Hp->BE->XK->BD->BE->Prop
structure aIg(P:AF)(w:AM)(K:aA)(mg:Str->Option BD)(base:BH)(A:BG)(outer:List Env)(s:BE)(H:Hp):Prop where
 frames:A.frames=some outer
 mod:Mod K mg base
 bs:∀b o,base.get? b=some o->s.heap.get? b=some o/\H b=none
 bsz:base.objs.size<=s.heap.objs.size
 funs:s.heap.FunFrames base outer
 frf:∀b∈frs outer,H b=none
 hok:HOk P w H s.heap
 bare:AllBare s.gens
def CE(outer:List Env)(P:AF)(w:AM)(H:Hp)(s:BE)(Q:VK)(u:BD)(s':BE):Prop:=
 ∃v H',s'.os=s.os/\AllBare s'.gens/\Un (frs outer) [] H H' s.heap s'.heap/\HOk P w H' s'.heap/\RelV v u/\Q v H'
def CR(CX:CXT)(outer:List Env)(P:AF)(w:AM)(H:Hp)(s:BE)(Q:VK)(E:XK)(r:Result)(s':BE):Prop:=
 match r with
 |.ok (.ret u)=>CE outer P w H s Q u s'
 |.ok _=>False
 |.error e=>CX outer H s E e s'
structure FnOk(P:AF)(w:AM)(K:aA)(mg:Str->Option BD)(base:BH)(CX:CXT)(k:Nat)(f:BF)(fd:AX)(ps:List Str)(sp:Sp):Prop where
 len:∀vs H Q E,sp vs H Q E->vs.length=ps.length
 run:∀ (A:BG) (outer:List Env) (s:BE) (H:Hp) (args:Args) (us:List BD) (vs:List V) (Q:VK) (E:XK),Room k A->aIg P w K mg base A outer s H->BindsTo s fd args (ps.zip us)->Vals vs us->sp vs H Q E->
  codeAny (AH P w) A (.call (.ref f) args) (CR CX outer P w H s Q E) s
variable {s':BE}
theorem Inv.env0(I:Inv X pins σ H s):aIg X.prog X.w X.K X.mg X.base X.A X.stack s H:=
 ⟨I.ok.frames,I.ok.mod,I.bs,cC I.ok.bsz I.sz,I.stack,I.stkFree,I.hok,I.bare⟩
theorem Inv.after{Q:VK}{u:BD}(I:Inv X pins σ H s)(h:CE X.stack X.prog X.w H s Q u s'):EP X pins σ Q u s':=by obtain⟨v,H',os,bare,un,hok,r,q⟩:=h;obtain⟨hh,g,d,t,os'⟩:=s';obtain rfl:os'=s.os:=os;exact⟨v,H',I.call (h':=hh) (g':=g) (d':=d) (t':=t) (ch:=[]) un hok bare (λb z=>absurd z<|by simp),r,q⟩
noncomputable def aLs(sp:Sp)(dvs:List V)(E:XK)(t:TA):TE:=λσ H Q=>t σ H λvs H1=>sp (vs++dvs) H1 Q E
def Binds(K:aA)(fd:AX)(ps:List Str)(ds:List BD):Prop:=
 ∀ (s:BE) (us:List BD),K.In s.heap->(us++ds).length=ps.length->BindsTo s fd ⟨us,[]⟩ (ps.zip<|us++ds)
theorem Binds.all{K:aA}{fd:AX}{ps:List Str}(h:∀us:List BD,us.length=ps.length->bindArgs fd ⟨us,[]⟩=pure (ps.zip us)):Binds K fd ps []:=λs us _ hl=>by rw[bZ] at hl ⊢;exact .of_eq<|h us hl
def aBk(CX:CXT)(X:Cx)(E:XK):Prop:=∀ (pins:List (BF×BI)) (σ:St) (H:Hp) (s:BE) (e:BD) (s':BE),Inv X pins σ H s->CX X.stack H s E e s'->X.xe e s'
variable {CX:CXT}{k:Nat}{f:BF}{fd:AX}{ps:List Str}{sp:Sp}{dvs:List V}{ds:List BD}{E:XK}{x m:Str}{p apos:Pos}{o:Expr}
theorem aJV{Q:VK}{us:List BD}{vs:List V}(F:FnOk X.prog X.w X.K X.mg X.base CX k f fd ps sp)(hr:Room k X.A)(hb:Binds X.K fd ps ds)(hd:Vals dvs ds)(hx:aBk CX X E)
  (I:Inv X pins σ H s) (r:Vals vs us) (h:sp (vs++dvs) H Q E):AK (AH X.prog X.w) X.A (call (.ref f) us) (EP X pins σ Q) X.xe s:=by
 have r2:Vals (vs++dvs) (us++ds):=r.append hd;have hl:(us++ds).length=ps.length:=by rw[<-r2.length];exact F.len _ _ _ _ h
 refine wpAny_call<|Az (F.run X.A X.stack s H ⟨us,[]⟩ (us++ds) (vs++dvs) Q E hr I.env0 (hb s us I.kIn hl) r2 h) λr s' hq=> ?_;cases r with
 |error e=>exact hx pins σ H s e s' I hq
 |ok fl=>
  cases fl with
  |ret u=>exact I.after hq
  |next=>exact False.elim hq
  |brk=>exact False.elim hq
  |cont=>exact False.elim hq
theorem aBT(F:FnOk X.prog X.w X.K X.mg X.base CX k f fd ps sp)(hr:Room k X.A)(hg:Gl X x)(hm:X.mg x=some (.ref f))(hk:eO X.K (.ref f)=true)(hb:Binds X.K fd ps ds)(hd:Vals dvs ds)(hx:aBk CX X E)
  (ha:PA X (e::es) t) (hdb:(x==("__debug__":Str))=false:=by decide) (he:AC (e::es) X.env=(false,eval e X.env)::AC es X.env:=by rfl) (hpl:(Ae pos<|AC es X.env).any (·.1)=false:=by rfl):
  PE X (.Call (.Name x p) (e::es) [] pos) (aLs sp dvs E t):=by
 intro pins s σ H Q I h;refine Aa<|oP I hg hm ?_ hdb;refine oK (h₀:=X.base) I.ok.mod.kin hk (thn (ha pos pins s σ H _ I h) λus s1 ⟨vs,H1,I1,r,q⟩=>⟨I1.kIn, ?_⟩) he hpl;exact aJV F hr hb hd hx I1 r q
structure Mk(K:aA)(C f:BF):Prop where
 makes:PySem.W.makesIn K C=true
 init:gA K (.ref C) "__init__"=some (some<|.ref f)
 fn:aIo K (.ref f)=true
 kp:eO K (.ref C)=true
section
variable {X:Cx}{CX:CXT}{k:Nat}{f C:BF}{fd:AX}{ps ks:List Str}{sp:Sp}{E:XK}{x m:Str}{p pos apos kpos:Pos}{e o:Expr}{es:List Expr}{kws:List Keyword}{te ta:TE}{t tk:TA}{nm:Option Str}
structure aMf(K:aA)(fd:AX)(ps ks:List Str)(g:List BD->List BD->List BD)(gV:List V->List V->List V):Prop where
 to:∀ (s:BE) (us ws:List BD),K.In s.heap->(g us ws).length=ps.length->BindsTo s fd ⟨us,ks.zip ws⟩ (ps.zip<|g us ws)
 rel:∀ {vs:List V}{us:List BD}{zs:List V}{ws:List BD},Vals vs us->Vals zs ws->Vals (gV vs zs) (g us ws)
variable {g:List BD->List BD->List BD}{gV:List V->List V->List V}
end
structure jD(N P:List Str)(sc:Scope):Prop where
 kind:sc.kind=.function
 co:sc.isCoroutine=false
 gen:sc.isGenerator=false
 nd:N.Nodup
 pre:N.take P.length=P
 par:∀x∈P,sc.names.lookup x=some .local\/sc.names.lookup x=some .cell
 nofree:∀y∈sc.names,y.2≠ .free
theorem vH{kindOf:Str->Option NameKind}{x:Str}:∀ {binds:List (Str×BD)}{m:Str->Option BD},(∀v,(x,v)∉binds)->bindL kindOf binds m x=m x
 |[],_,_=>rfl
 |(n,v)::r,m,h=>by
  unfold bindL;rw[vH λw hw=>h w<|aC _ hw]
  split
  ·have:x≠n:=by rintro rfl;exact h v aE
   simp[this]
  ·rfl
theorem vP{kindOf:Str->Option NameKind}{x:Str}:∀ {binds:List (Str×BD)}{m:Str->Option BD},(∀v,(x,v)∉binds)->bindC kindOf binds m x=m x
 |[],_,_=>rfl
 |(n,v)::r,m,h=>by
  unfold bindC;rw[vP λw hw=>h w<|aC _ hw]
  split
  ·rfl
  ·have:x≠n:=by rintro rfl;exact h v aE
   simp[this]
theorem vE{kindOf:Str->Option NameKind}{x:Str}{v:BD}:∀ {P:List Str}{vs:List BD}{i:Nat}{m:Str->Option BD},P.Nodup->P[i]? =some x->vs[i]? =some v->kindOf x=some .local->
  bindL kindOf (P.zip vs) m x=some v
 |[],_,_,_,_,h,_,_=>by simp at h
 |_::_,[],_,_,_,_,h,_=>by simp at h
 |p::P,w::vs,0,m,nd,h1,h2,hk=>by simp at h1 h2;subst h1;subst h2;show bindL kindOf ((p,w)::P.zip vs) m p=_;unfold bindL;rw[vH λv hv=>(bA.mp nd).1 (uU hv).1,if_pos hk];simp
 |p::P,w::vs,i+1,m,nd,h1,h2,hk=>by show bindL kindOf ((p,w)::P.zip vs) m x=_;unfold bindL;exact vE (i:=i) (bA.mp nd).2 (by simpa using h1) (by simpa using h2) hk
theorem vD{kindOf:Str->Option NameKind}{x:Str}{v:BD}:∀ {P:List Str}{vs:List BD}{i:Nat}{m:Str->Option BD},P.Nodup->P[i]? =some x->vs[i]? =some v->kindOf x≠some .local->
  bindC kindOf (P.zip vs) m x=some v
 |[],_,_,_,_,h,_,_=>by simp at h
 |_::_,[],_,_,_,_,h,_=>by simp at h
 |p::P,w::vs,0,m,nd,h1,h2,hk=>by simp at h1 h2;subst h1;subst h2;show bindC kindOf ((p,w)::P.zip vs) m p=_;unfold bindC;rw[vP λv hv=>(bA.mp nd).1 (uU hv).1,if_neg hk];simp
 |p::P,w::vs,i+1,m,nd,h1,h2,hk=>by show bindC kindOf ((p,w)::P.zip vs) m x=_;unfold bindC;exact vD (i:=i) (bA.mp nd).2 (by simpa using h1) (by simpa using h2) hk
noncomputable def start(N:List Str)(vs:List V):St:=vs.map some++eW (N.length-vs.length) none
noncomputable def jL(CX:CXT)(P:AF)(w:AM)(K:aA)(mg:Str->Option BD)(base:BH)(N:List Str)(qual:Str)(scope:Scope)(f:BF)(cd:BD)(A:BG)(outer:List Env)(s:BE)(H:Hp)(E:XK):Cx where
 prog:=P
 w:=w
 K:=K
 mg:=mg
 base:=base
 A:=A.deeper<|As qual scope s.heap.objs.size f cd
 N:=N
 s₀:=s
 H₀:=H
 env:=As qual scope s.heap.objs.size f cd
 outer:=outer
 stack:=As qual scope s.heap.objs.size f cd::outer
 ex:=[]
 calm:=true
 fn:=λ_=>true
 pn:=[]
 xe:=λe s'=>AK (AH P w) (A.deeper<|As qual scope s.heap.objs.size f cd) (leaving (As qual scope s.heap.objs.size f cd) e) (λ_ s''=>CX outer H s E e s'') (λe' s''=>CX outer H s E e' s'') s'
theorem aAl{sc:Scope}{n:Nat}(h:sc.names.lookup x=some .cell):∃c,(cellsFrom n sc.names []).lookup x=some c:=by have q:=yP sc.names n []<|.inl h;exact kS.mp q
theorem aCz{K:aA}{mg:Str->Option BD}{base:BH}{N:List Str}{qual:Str}{scope:Scope}{cd:BD}{outer:List Env}{s1:BE}{us:List BD}{vs:List V}
  (S:jD N ps scope) (hd:A.handled=none) (e0:aIg P w K mg base A outer s H) (hl:vs.length=ps.length) (r:Vals vs us)
  (x:InCallC s s.heap.objs.size (bindL (As qual scope s.heap.objs.size f cd).kindOf (ps.zip us) λ_=>none) (cellsFrom (s.heap.objs.size+1) scope.names []) (bindC (As qual scope s.heap.objs.size f cd).kindOf (ps.zip us) λ_=>none) s1):
  Inv (jL CX P w K mg base N qual scope f cd A outer s H E) [] (start N vs) H s1:=by
 have hpl:ps.length<=N.length:=by have:=congrArg nZ S.pre;rw[cO] at this;omega
 obtain⟨h1,tk,rfl,hk⟩:=x.done;have noA:∀b:BF,b∉(jL CX P w K mg base N qual scope f cd A outer s H E).ex:=λb z=>absurd (show b∈([]:List BF) from z)<|by simp
 refine ⟨⟨e0.mod,S.kind,rfl,rfl,aO _,fun y z c h1 h2=> ?_,fun y hy=> ?_,fun y c _ h=> ?_,fun _=>hd,Around.frames_deeper e0.frames, .inr ⟨rfl,rfl⟩,fun b z=>absurd z (noA b),e0.bs,e0.bsz,fun b _ _=>noA b,fun b z=>absurd z (noA b),e0.funs,e0.frf⟩,
  rfl,e0.bare,Un.kept hk,⟨_,x.toInCall.ns,λi y v h1 h2 h3=> ?_⟩,λy c h=>⟨_,x.cell y c h⟩,e0.hok.fresh (aO _),λy c h=> ?_,λp hp=>absurd (show p∈([]:List (BF×BI)) from hp) (by simp),e0.hok.kept hk, ?_⟩
 ·exact name_of_addr x.apart (PySem.mem_of_lookup h1)<|PySem.mem_of_lookup h2
 ·have hy:scope.names.lookup y=some .cell\/scope.names.lookup y=some .free:=hy
  rcases hy with hy|hy
  ·exact aAl hy
  ·exact absurd rfl (S.nofree _<|PySem.mem_of_lookup hy)
 ·exact dC (x.above y c<|PySem.mem_of_lookup h)
 ·have hi:i<vs.length:=by
   unfold start at h2
   by_cases hi:i<vs.length
   ·exact hi
   ·rw[cV<|by simpa using hi] at h2;rw[List.getElem?_replicate] at h2
    split at h2<;>cases h2
  have ha:vs[i]? =some v:=by
   unfold start at h2;rw[cK (by simpa using hi),bB] at h2;cases e:vs[i]? with
   |none=>rw[e] at h2;cases h2
   |some a=>rw[e] at h2;cases h2;rfl
  obtain⟨u,hu,rv⟩:=r.get ha
  have hp:ps[i]? =some y:=by rw[<-S.pre,yR<|by omega];exact h1
  have ndP:ps.Nodup:=by rw[<-S.pre];exact S.nd.sublist<|List.take_sublist _ _
  refine⟨u,rv, ?_⟩
  rcases S.par y (aN hp) with k|k
  ·exact .inl ⟨k,vE ndP hp hu k⟩
  ·obtain⟨c,e⟩:=aAl (n:=s.heap.objs.size+1) k;refine .inr ⟨.inl k,c,e, ?_⟩;have q:=x.cell y c e;rw[vD ndP hp hu<|by show scope.names.lookup y≠_;rw[k];decide] at q;exact q
 ·exact e0.hok.fresh<|dC (x.above y c<|PySem.mem_of_lookup h)
 ·unfold start;show _=N.length;rw[aM,aB,List.length_replicate];omega
theorem aIS{K:aA}{mg:Str->Option BD}{base:BH}{name qual:Str}{params:Arguments}{body:List BJ}{scope:Scope}{dV kV doc pm cdv ct oc:BD}{an od:Option BF}
  {osl:Array (Option BD)}{N ps:List Str}{sp:Sp} (lk:K.lookup f=some ⟨oc,od,.func<|dI name qual params body scope dV kV doc pm an cdv ct,osl⟩) (hcd:iV K cdv qual=true) (S:jD N ps scope)
  (len:∀vs H Q E,sp vs H Q E->vs.length=ps.length)
  (hbody:∀ (A:BG) (outer:List Env) (s:BE) (H:Hp) (vs:List V) (Q:VK) (E:XK),Room k (A.deeper (As qual scope s.heap.objs.size f cdv))→sp vs H Q E→
   ∃t,PSs (jL CX P w K mg base N qual scope f cdv A outer s H E) body t/\t {nx:=λ_ H'=>Q .non H',rt:=Q} (start N vs) H):
  FnOk P w K mg base CX (k+1) f (dI name qual params body scope dV kV doc pm an cdv ct) ps sp:=by
 refine⟨len,λA outer s H args us vs Q E hr e0 hb r hsp=> ?_⟩;have hl:=len _ _ _ _ hsp;have KX:K.In s.heap:=e0.mod.kin.keeps λb o e=>(e0.bs b o e).1
 have lim:s.heap.NoLimit:=e0.mod.nolimit.keeps λb o e=>(e0.bs b o e).1
 have hkind:∀y∈ps.zip us,scope.names.lookup y.1=some .local\/(scope.names.lookup y.1=some .cell/\((cellsFrom (s.heap.objs.size+1) scope.names []).lookup y.1).isSome=true):=λ⟨n,v⟩ hy=>by
  rcases S.par n (uU hy).1 with q|q
  ·exact .inl q
  ·exact .inr ⟨q,yP _ _ _<|.inl q⟩
 refine codeAny_call_function hr.depth (KX _ _ lk) rfl S.co S.gen rfl (PySem.W.codeRec_of KX hcd)<|hb _ _ _ _ ?_;refine wpAny_newFunctionEnv_cells S.kind hkind λenv he s1 x=> ?_
 subst he;refine⟨lim.keeps x.toInCall.keep,codeAny_func ?_⟩;obtain⟨t,ht,hq⟩:=hbody A outer s H vs Q E (hr.deeper _) hsp;have I:Inv (jL CX P w K mg base N qual scope f cdv A outer s H E) [] (start N vs) H s1:=aCz S hr.hd e0 hl r x;refine AW (ht [] s1 (start N vs) H _ I hq) (λfl s' hs=> ?_) λe s' hs=>hs
 have fin:∀ {σ':St}{H':Hp}{v:V}{u:BD},Inv (jL CX P w K mg base N qual scope f cdv A outer s H E) [] σ' H' s'->RelV v u->Q v H'->CE outer P w H s Q u s':=
  λ{σ' H' v u} J rv q=>⟨v,H',J.os,J.bare,J.base,J.hok,rv,q⟩
 cases fl with
 |ret u=>obtain⟨v,σ',H',J,rv,q⟩:=hs;exact fin J rv q
 |next=>obtain⟨σ',H',J,q⟩:=hs;exact fin (v:=V.non) (u:=Value.none) J rfl q
 |brk=>obtain⟨_,_,_,q⟩:=hs;exact False.elim q
 |cont=>obtain⟨_,_,_,q⟩:=hs;exact False.elim q
section
variable {X:Cx}{x:Str}{p pos:Pos}{e:Expr}{es:List Expr}{t:TA}{id T:String}{r:List V->Hp->VK->Prop}
noncomputable def tCB(r:List V->Hp->VK->Prop)(t:TA):TE:=λσ H Q=>t σ H λvs H1=>r vs H1 Q
theorem jG(hc:kI X (.builtin id) r)(hg:Gl X x)(hm:X.mg x=none)(hv:Ac x=some (.builtin id))(ha:PA X (e::es) t)(hn:x≠"__name__":=by decide)(hdb:(x==("__debug__":Str))=false:=by decide)
  (he:AC (e::es) X.env=(false,eval e X.env)::AC es X.env:=by rfl) (hpl:(Ae pos<|AC es X.env).any (·.1)=false:=by rfl):PE X (.Call (.Name x p) (e::es) [] pos) (tCB r t):=by
 intro pins s σ H Q I h;refine Aa<|mL I hg hm hv ?_ hn hdb;exact PyProof.Rows.callWith_builtin1 (thn (ha pos pins s σ H _ I h) λus s1 ⟨vs,H1,I1,r1,q1⟩=>hc pins s1 σ H1 vs us Q I1 r1 q1) he hpl
theorem aCH(hc:kI X (.type T) r)(hg:Gl X x)(hm:X.mg x=none)(hv:Ac x=some (.type T))(ha:PA X (e::es) t)(hn:x≠"__name__":=by decide)(hdb:(x==("__debug__":Str))=false:=by decide)
  (he:AC (e::es) X.env=(false,eval e X.env)::AC es X.env:=by rfl) (hpl:(Ae pos<|AC es X.env).any (·.1)=false:=by rfl):PE X (.Call (.Name x p) (e::es) [] pos) (tCB r t):=by
 intro pins s σ H Q I h;refine Aa<|mL I hg hm hv ?_ hn hdb;exact PyProof.Rows.callWith_type1 (thn (ha pos pins s σ H _ I h) λus s1 ⟨vs,H1,I1,r1,q1⟩=>hc pins s1 σ H1 vs us Q I1 r1 q1) he hpl
end
end L2
namespace HT
open PySem PyProof.Rows
noncomputable def lexLt:List Int->List Int->Bool
 |[],[]=>false
 |[],_::_=>true
 |_::_,[]=>false
 |x::xs,y::ys=>if x=y then lexLt xs ys else decide (x<y)
section
open PySem.SeqAt
open PySem.AutoSeq1 (wpAny_loadPart')
open PySem.MeetsSeq PySem.MeetsSeq2 PySem.MeetsSeq3
end
variable {prog:AF}{w:AM}{A:BG}{E:BD->BE->Prop}{s:BE}
theorem cat_tup{t b:BF}{vs ws:List BD}{Q:BD->BE->Prop}(ht:IsTup s.heap t vs.toArray)(hb:IsTup s.heap b ws.toArray)(hv:vs≠[])
  (h1:ws=[]->Q (.ref t) s) (h2:ws≠[]->Q (.ref s.heap.objs.size) {s with heap:=s.heap.push {cls:=.type "tuple",data:=.seq (vs++ws).toArray}})
  (hsz:vs.length+ws.length<=AL):AK (AH prog w) A (Ah .Add (.ref t)<|.ref b) Q E s:=by
 obtain⟨⟨cls,dd,data,sl⟩,ho,hc,n,hd⟩:=id ht;obtain⟨⟨cls2,dd2,data2,sl2⟩,ho2,hc2,n2,hd2⟩:=id hb;simp only at hc hd hc2 hd2;subst hc hd hc2 hd2;have e:vs.toArray++ws.toArray=(vs++ws).toArray:=by simp
 by_cases hw:ws=[]
 ·exact concat_meets ⟨_,ho,rfl⟩ ⟨_,ho2,rfl⟩ noFill_tuple_add seq_tuple_add lY lE (kO _ _)
   (tuple_addW1 t b vs.toArray ws.toArray n n2 dd dd2 sl sl2 (by simpa using hv)<|by simp[hw]) ⟨ho,ho2,h1 hw⟩
 ·refine concat_meets ⟨_,ho,rfl⟩ ⟨_,ho2,rfl⟩ noFill_tuple_add seq_tuple_add lY lE (kO _ _)
   (tuple_addW2 t b vs.toArray ws.toArray n n2 dd dd2 sl sl2 (by simpa using hv) (by simpa using hw)<|by rw[bC,bC];exact hsz) ⟨ho,ho2, ?_⟩
  rw[e];exact h2 hw
noncomputable def sIx(n d:Nat):Option Int->Nat
 |none=>d
 |some v=>if v<0 then(v+(n:Int)).toNat else min v.toNat n
theorem sIx_none(n d:Nat):sIx n d none=d:=rfl
theorem sIx_nat(n d k:Nat):sIx n d (some (k:Int))=min k n:=by show(if(k:Int)<0 then((k:Int)+(n:Int)).toNat else min (k:Int).toNat n)=min k n;rw[if_neg<|by omega,dM]
theorem aJp(n d:Nat)(hd:d<=n)(o:Option Int):sIx n d o<=n:=by
 cases o with
 |none=>exact hd
 |some v=>
  show(if v<0 then(v+(n:Int)).toNat else min v.toNat n)<=n
  by_cases hv:v<0
  ·rw[if_pos hv];omega
  ·rw[if_neg hv];exact Nat.min_le_right _ _
theorem aBF(v:Int)(n d:Nat):(if v<0 then max (v+(n:Int)) 0 else min v (n:Int))=((sIx n d (some v):Nat):Int):=by
 show(if v<0 then max (v+(n:Int)) 0 else min v (n:Int))=(((if v<0 then(v+(n:Int)).toNat else min v.toNat n):Nat):Int)
 by_cases hv:v<0
 ·simp only[if_pos hv];omega
 ·simp only[if_neg hv];omega
theorem aAJ(lo hi:Option Int)(n:Nat):Builtin.Slice.sliceAdjust lo hi 1 (n:Int)=(((sIx n 0 lo:Nat):Int),((sIx n n hi:Nat):Int)):=by
 have h1:¬ ((1:Int)<0):=by omega
 unfold Builtin.Slice.sliceAdjust;simp only[h1,if_false];refine Prod.ext ?_ ?_
 ·cases lo with
  |none=>rfl
  |some v=>exact aBF v n 0
 ·cases hi with
  |none=>rfl
  |some v=>exact aBF v n n
theorem aAz(i j:Nat):Builtin.Slice.slicePlaces (i:Int) (j:Int) 1=j-i:=by
 unfold Builtin.Slice.slicePlaces;have h1:(1:Int)>0:=by omega
 simp only[h1,if_true,Int.ediv_one]
 split<;>omega
theorem tJ{v:BD}{o:Option Int}{Q:Option Int->BE->Prop}(p:IsPart v o)(h:Q o s):AK (AH prog w) A (Builtin.Slice.slicePartIndex v) Q E s:=by
 cases p with
 |none=>exact slicePart_none h
 |int i t=>exact slicePart_int h
theorem qN{sl:BF}{vl vu:BD}{lo hi:Option Int}{n:Nat}{Q:Int×Int×Nat->BE->Prop}(hs:s.heap.IsSliceOf sl vl vu .none)(pl:IsPart vl lo)(pu:IsPart vu hi)
  (h:Q (((sIx n 0 lo:Nat):Int),1,sIx n n hi-sIx n 0 lo) s):AK (AH prog w) A (Builtin.Slice.sliceApplied (.ref sl)<|pure (n:Int)) Q E s:=by
 obtain⟨os,hos,hcs,hds⟩:=id hs;unfold Builtin.Slice.sliceApplied Builtin.Slice.sliceFields;refine AA<|AA (wpAny_field hos hds (x:=vl) rfl<|AA (wpAny_field hos hds (x:=vu) rfl<|AA (wpAny_field hos hds (x:=.none) rfl<|AB ?_)));refine AA<|slicePart_none ?_;show AK _ _ (if((1:Int)==0)=true then _ else _) _ _ s;rw[if_neg<|by decide];refine AA<|tJ pl (AA<|tJ pu (AA<|AB ?_));show AK _ _ (match Builtin.Slice.sliceAdjust lo hi 1 (n:Int) with|(lo,hi)=>pure (lo,(1:Int),Builtin.Slice.slicePlaces lo hi 1)) _ _ s;rw[aAJ lo hi n];show AK _ _ (pure (((sIx n 0 lo:Nat):Int),(1:Int),Builtin.Slice.slicePlaces ((sIx n 0 lo:Nat):Int) ((sIx n n hi:Nat):Int) 1)) _ _ s;rw[aAz];exact AB h
theorem aDJ(xs:Array BD)(i k:Nat):((bQ k).filterMap λ(m:Nat)=>xs[((i:Int)+(m:Int)*1).toNat]?).toArray=((xs.toList.drop i).take k).toArray:=by
 have e:(λ(m:Nat)=>xs[((i:Int)+(m:Int)*1).toNat]?)=λm=>xs[i+m]? :=by
  funext m;have:((i:Int)+(m:Int)*1).toNat=i+m:=by omega
  rw[this]
 rw[e];have:=pick_run xs i k;rw[List.filterMap_map] at this;have e2:((λx=>xs[x]?) ∘ λx=>i+x)=λm=>xs[i+m]? :=rfl
 rw[e2] at this;rw[this]
theorem getItem_tuple_cut{t sl:BF}{items:Array BD}{vl vu:BD}{lo hi:Option Int}{Q:BD->BE->Prop}(ht:IsTup s.heap t items)(hs:s.heap.IsSliceOf sl vl vu .none)(pl:IsPart vl lo)(pu:IsPart vu hi)
  (hw:¬ (sIx items.size 0 lo=0/\sIx items.size items.size hi=items.size))
  (h:Q (.ref s.heap.objs.size) {s with heap:=s.heap.push {cls:=.type "tuple",data:=.seq ((items.toList.drop<|sIx items.size 0 lo).take<|sIx items.size items.size hi-sIx items.size 0 lo).toArray}})
  (hsz:items.size<=AL):AK (AH prog w) A (getItem (.ref t)<|.ref sl) Q E s:=by
 have htake:sizeOk (.seq ((items.toList.drop<|sIx items.size 0 lo).take<|sIx items.size items.size hi-sIx items.size 0 lo).toArray):=by show((items.toList.drop<|sIx items.size 0 lo).take<|sIx items.size items.size hi-sIx items.size 0 lo).toArray.size<=AL;rw[bC,cO,jI,bS];omega
 have hj:sIx items.size items.size hi<=items.size:=aJp _ _ (aO _) hi;obtain⟨os,hos,hcs,hds⟩:=id hs;have hTs:s.TypeIs (.ref sl) "slice":=⟨os,hos,hcs⟩;unfold getItem
 try with_reducible refine Ag ?_
 first|refine AA (AB ?_)|skip
 refine AA<|wpAny_sequenceKey ht.typeIs (by decide) ?_
 refine AA (Ar (name:=Str.ofString "__getitem__") ht.typeIs PyProof.Rows.slot_tuple_getitem
  (Ak PyProof.Rows.slot_tuple_getitem ht.typeIs entry_tuple_getitem ?_ (args_tuple_getitem _ _)))
 show AK _ _ (Builtin.Tuple.tupleItemsOf (.ref t)>>=_) _ _ s;refine AA<|tupleItemsOf_ ht ?_;refine AA<|wpAny_typeOf hTs ?_;rw[if_pos<|by decide];refine AA<|qN hs pl pu ?_
 have hno:¬ ((((sIx items.size 0 lo:Nat):Int)==0&&(1:Int)==1&&(sIx items.size items.size hi-sIx items.size 0 lo)==items.size)=true):=by intro q;rw[bG,bG] at q;have q1:((sIx items.size 0 lo:Nat):Int)=0:=eq_of_beq q.1.1;have q2:sIx items.size items.size hi-sIx items.size 0 lo=items.size:=eq_of_beq q.2;exact hw ⟨by omega,by omega⟩
 show AK _ _ (if(((sIx items.size 0 lo:Nat):Int)==0&&(1:Int)==1&&(sIx items.size items.size hi-sIx items.size 0 lo)==items.size)=true then _ else _) _ _ s;rw[if_neg hno,aDJ]
 first
  |exact AA (m:=Builtin.Tuple.tupleExact _) (AT (AB ⟨_,rfl,AB h⟩) htake)
  |exact AA (m:=Builtin.Tuple.tupleExact _) (AT (AA (AB<|AB ⟨_,rfl,AB h⟩)) htake)
  |exact AA (AA (m:=Builtin.Tuple.tupleExact _)<|AT (AB<|AB ⟨_,rfl,AB h⟩) htake)
  |exact AA (AA (m:=Builtin.Tuple.tupleExact _)<|AT (AB ⟨_,rfl,AB h⟩) htake)
end HT
namespace L2
open PySem PySem.Spec PyProof.Rows
noncomputable abbrev TO:=St->Hp->(Option Int->Hp->Prop)->Prop
def PO(X:Cx)(e:Option Expr)(t:TO):Prop:=
 ∀ (pins:List (BF×BI)) (s:BE) (σ:St) (H:Hp) (Q:Option Int->Hp->Prop),Inv X pins σ H s->t σ H Q->
  AK (AH X.prog X.w) X.A (evalPart e X.env) (λu s'=>∃o H',Inv X pins σ H' s'/\IsPart u o/\Q o H') X.xe s
noncomputable def aHb:TO:=λ_ H Q=>Q none H
noncomputable def aLB(t:TE):TO:=λσ H Q=>t σ H λx H1=>∃i,x=.int i/\Q (some i) H1
variable {X:Cx}{e:Expr}{te:TE}{lo hi:Option Expr}{tl th:TO}{pos p2:Pos}
theorem aHd:PO X none aHb:=by intro pins s σ H Q I h;rw[evalPart_none];exact AB ⟨none,H,I,.none,h⟩
theorem aHq(h:PE X e te):PO X (some e) (aLB te):=by
 intro pins s σ H Q I hw;rw[evalPart_some];refine thn (h pins s σ H _ I hw) λu s1 ⟨x,H1,I1,r1,q1⟩=> ?_
 obtain⟨i,rfl,q⟩:=q1;obtain⟨t,rfl⟩:=r1;exact⟨some i,H1,I1,.int i t,q⟩
def SlR(X:Cx)(r:V->Option Int->Option Int->Hp->VK->Prop):Prop:=
 ∀ (pins:List (BF×BI)) (s:BE) (σ:St) (H:Hp) (x:V) (v vl vu:BD) (lo hi:Option Int) (sl:BF) (Q:VK),Inv X pins σ H s->RelV x v->s.heap.IsSliceOf sl vl vu .none->IsPart vl lo->IsPart vu hi->r x lo hi H Q->
  ∃T id,typeLookup (.type T) "__getitem__"=pure (some<|.builtin id)/\s.TypeIs v T/\AK (AH X.prog X.w) X.A (getItem v<|.ref sl) (EP X pins σ Q) X.xe s
noncomputable def tSl(r:V->Option Int->Option Int->Hp->VK->Prop)(te:TE)(tl th:TO):TE:=λσ H Q=>te σ H λx H1=>tl σ H1 λl H2=>th σ H2 λu H3=>r x l u H3 Q
theorem aEu{r:V->Option Int->Option Int->Hp->VK->Prop}(hr:SlR X r)(he:PE X e te)(hl:PO X lo tl)(hu:PO X hi th):PE X (.Subscript e (.Slice lo hi none p2) pos) (tSl r te tl th):=by
 intro pins s σ H Q I h;refine Subscript_<|thn (he pins s σ H _ I h) λv s1 ⟨x,H1,I1,r1,q1⟩=> ?_;refine wpAny_Slice<|thn (hl pins s1 σ H1 _ I1 q1) λvl s2 ⟨l,H2,I2,pl,q2⟩=>thn (hu pins s2 σ H2 _ I2 q2) λvu s3 ⟨u,H3,I3,pu,q3⟩=> ?_;rw[evalPart_none];refine AB ?_;have I4:Inv X pins σ H3 {s3 with heap:=s3.heap.push {cls:=.type "slice",data:=.fields #[vl,vu,.none]}}:=I3.kept (t':=s3.toks) λb ob q=>aJ _ q
 obtain⟨T,id,hT,ht,hg⟩:=hr pins {s3 with heap:=s3.heap.push {cls:=.type "slice",data:=.fields #[vl,vu,.none]}} σ H3 x v vl vu l u s3.heap.objs.size Q I4 r1 (Heap.IsSliceOf.new ..) pl pu q3;show AK (AH X.prog X.w) X.A (subscriptTail e (.Slice lo hi none p2) v<|.ref s3.heap.objs.size) (EP X pins σ Q) X.xe {s3 with heap:=s3.heap.push {cls:=.type "slice",data:=.fields #[vl,vu,.none]}};exact tail_any (ops:=[.ref s3.heap.objs.size,v]) ht hT hg (by with_unfolding_all rfl)
noncomputable def aFX(xs:List V)(lo hi:Option Int):List V:=(xs.drop<|HT.sIx xs.length 0 lo).take<|HT.sIx xs.length xs.length hi-HT.sIx xs.length 0 lo
theorem zL(xs:List V)(lo hi:Option Int):(aFX xs lo hi).length<=xs.length:=by unfold aFX;rw[cO,jI];omega
def rSlT(K:aA):V->Option Int->Option Int->Hp->VK->Prop:=λx lo hi H Q=>∃a xs,x=.ref a/\SqT K H a xs/\
 ¬ (HT.sIx xs.length 0 lo=0/\HT.sIx xs.length xs.length hi=xs.length)/\∀p,H p=none->Q (.ref p) (upd H p (.tup<|aFX xs lo hi))
theorem aJx:SlR X (rSlT X.K):=by
 intro pins s σ H x v vl vu lo hi sl Q I rx hs pl pu h;obtain⟨a,xs,rfl,hx,hw,q⟩:=h;cases rx;obtain⟨its,r,ht,hz⟩:=I.tuple hx;have hlen:its.toArray.size=xs.length:=by rw[bC];exact r.length.symm
 refine⟨"tuple",_,PyProof.Rows.slot_tuple_getitem.lookup,ht.typeIs, ?_⟩;refine HT.getItem_tuple_cut ht hs pl pu (by rw[hlen];exact hw) ?_ (by rw[hlen];exact hz);rw[hlen];refine⟨.ref s.heap.objs.size,_,I.laid (t':=s.toks) (o:=.tup<|aFX xs lo hi) (λb ob q=>aJ _ q) (aO _) ?_,rfl,q _ (I.hok.fresh<|aO _)⟩;exact⟨cC (zL xs lo hi) hz,_,(r.drop<|HT.sIx xs.length 0 lo).take<|HT.sIx xs.length xs.length hi-HT.sIx xs.length 0 lo,IsTupD.new _ _⟩
noncomputable def aLt(K:aA):R2:=λx y H Q=>∃a b xs ys,x=.ref a/\y=.ref b/\SqT K H a xs/\SqT K H b ys/\xs≠[]/\xs.length+ys.length<=AL/\
 (ys=[]->Q (.ref a) H)/\(ys≠[]->∀p,H p=none->Q (.ref p) (upd H p (.tup<|xs++ys)))
theorem Vals.nil_iff{xs:List V}{us:List BD}(r:Vals xs us):us=[]↔xs=[]:=by
 cases r with
 |nil=>simp
 |cons _ _=>simp
theorem aGT:OpR X (Ah .Add) (aLt X.K):=by intro pins s σ H x y v u Q I rx ry h;obtain⟨a,b,xs,ys,rfl,rfl,ha,hb,hx,hz,q1,q2⟩:=h;cases rx;cases ry;obtain⟨its,r1,p1,_⟩:=I.tuple ha;obtain⟨its2,r2,p2,_⟩:=I.tuple hb;refine HT.cat_tup p1 p2 (λz=>hx<|r1.nil_iff.mp z) (λz=>⟨.ref a,H,I,rfl,q1<|r2.nil_iff.mp z⟩) (λz=> ?_) (by rw[<-r1.length,<-r2.length];exact hz);refine⟨.ref s.heap.objs.size,_,I.laid (t':=s.toks) (o:=.tup<|xs++ys) (λb ob q=>aJ _ q) (aO _) ?_,rfl,q2 (λw=>z<|r2.nil_iff.mpr w) _ (I.hok.fresh<|aO _)⟩;exact⟨by rw[aM];exact hz,_,r1.append r2,IsTupD.new _ _⟩
noncomputable def ixN(n:Nat)(i:Int):Option Nat:=if 0<=i then(if i<n then some i.toNat else none) else if -(n:Int)<=i then some (i+n).toNat else none
noncomputable def atI{α:Type}(xs:List α)(i:Int):Option α:=(ixN xs.length i).bind λj=>xs[j]?
theorem aHG{n:Nat}{i:Int}{j:Nat}(h:ixN n i=some j):seqIndex? i n=some j/\j<n/\ -(n:Int)<=i/\i<n:=by
 unfold ixN at h
 by_cases h0:0<=i
 ·rw[if_pos h0] at h
  by_cases h1:i<n
  ·rw[if_pos h1] at h;have e:i.toNat=j:=bY.inj h;exact⟨by rw[seqIndex_of h0 h1,e],by omega,by omega,h1⟩
  ·rw[if_neg h1] at h;cases h
 ·rw[if_neg h0] at h
  by_cases h1: -(n:Int)<=i
  ·rw[if_pos h1] at h;have e:(i+n).toNat=j:=bY.inj h;exact⟨by rw[seqIndex_neg (by omega) h1,e],by omega,h1,by omega⟩
  ·rw[if_neg h1] at h;cases h
theorem aBR{α:Type}{xs:List α}{i:Int}{v:α}(h:atI xs i=some v):∃j,seqIndex? i xs.length=some j/\xs[j]? =some v/\j<xs.length/\ -(xs.length:Int)<=i/\i<xs.length:=by
 unfold atI at h;cases e:ixN xs.length i with
 |none=>rw[e] at h;cases h
 |some j=>rw[e] at h;obtain⟨h1,h2,h3,h4⟩:=aHG e;exact⟨j,h1,h,h2,h3,h4⟩
theorem xS{α:Type}{xs:List α}{j:Nat}{v:α}(h:xs[j]? =some v):atI xs (j:Int)=some v:=by
 have hj:j<xs.length:=(aF.mp h).1
 have e:ixN xs.length (j:Int)=some j:=by unfold ixN;rw[if_pos<|by omega,if_pos<|by omega];simp
 unfold atI;rw[e];exact h
def lP(b:Expr):Prop:=∀o i,subscripted b false o i=operate [o,i] (getItem o i)
def IxR(X:Cx)(r:R2):Prop:=
 ∀ (value slice:Expr) (pins:List (BF×BI)) (s:BE) (σ:St) (H:Hp) (x y:V) (v u:BD) (Q:VK),Inv X pins σ H s->RelV x v->RelV y u->r x y H Q->
  subscripted slice false v u=operate [v,u] (getItem v u)->AK (AH X.prog X.w) X.A (subscriptTail value slice v u) (EP X pins σ Q) X.xe s
def MtR(X:Cx)(id:String)(r:V->List V->Hp->VK->Prop):Prop:=
 ∀ (pins:List (BF×BI)) (s:BE) (σ:St) (H:Hp) (x:V) (xs:List V) (v:BD) (us:List BD) (Q:VK),Inv X pins σ H s->RelV x v->Vals xs us->r x xs H Q->
  AK (AH X.prog X.w) X.A (call (.builtin id) (v::us)) (EP X pins σ Q) X.xe s
section
variable {X:Cx}{a b:Expr}{ta tb:TE}{pos:Pos}
theorem aDy{r:R2}(hr:IxR X r)(ha:PE X a ta)(hb:PE X b tb)(hs:lP b):PE X (.Subscript a b pos) (tOp r ta tb):=by intro pins s σ H Q I h;exact Subscript_ (aKR ha hb I h λv u s2 x y H2 I2 rx ry q=>hr a b pins s2 σ H2 x y v u Q I2 rx ry q<|hs _ _)
noncomputable def rIxL(K:aA):R2:=λx y H Q=>∃p xs i v,x=.ref p/\y=.int i/\SqL K H p xs/\atI xs i=some v/\Q v H
noncomputable def rIxT(K:aA):R2:=λx y H Q=>∃p xs i v,x=.ref p/\y=.int i/\SqT K H p xs/\atI xs i=some v/\Q v H
theorem xW:IxR X (rIxL X.K):=by
 intro value slice pins s σ H x y v u Q I rx ry h hs;obtain⟨p,xs,i,z,rfl,rfl,hq,he,q⟩:=h;cases rx;obtain⟨t,rfl⟩:=ry;obtain⟨its,r,pl,hz⟩:=I.list hq;obtain⟨j,h1,h2,h3,h4,h5⟩:=aBR he;obtain⟨w,ew,rw'⟩:=r.get h2;have hl:=r.length;have hn:=aBp;have fin:EP X pins σ Q w s:=⟨z,H,I,rw',q⟩
 by_cases h0:0<=i
 ·have hj:i.toNat=j:=by rw[seqIndex_of h0 h5] at h1;exact bY.inj h1
  exact item_listR pl.isList h0 (by omega) (by rw[hj];simpa using ew) fin hs
 ·have hj:(i+(its.toArray.size:Int)).toNat=j:=by rw[seqIndex_neg (by omega) h4] at h1;rw[bC,<-hl];exact bY.inj h1
  exact subscriptTail_builtinR (x:=w) pl.isList.typeIs slot_list_getitem.lookup
   (wpAny_getItem_list_neg (Q:=λr s'=>r=w/\EP X pins σ Q r s') pl.isList (by omega) (by rw[bC]<;>omega) (by omega) (by rw[hj];simpa using ew) ⟨rfl,fin⟩) hs
theorem aJj:IxR X (rIxT X.K):=by
 intro value slice pins s σ H x y v u Q I rx ry h hs;obtain⟨p,xs,i,z,rfl,rfl,hq,he,q⟩:=h;cases rx;obtain⟨t,rfl⟩:=ry;obtain⟨its,r,pl,hz⟩:=I.tuple hq;obtain⟨j,h1,h2,h3,h4,h5⟩:=aBR he;obtain⟨w,ew,rw'⟩:=r.get h2;have hl:=r.length;have hn:=aBp;have fin:EP X pins σ Q w s:=⟨z,H,I,rw',q⟩
 exact subscriptTail_builtinR (x:=w) pl.typeIs slot_tuple_getitem.lookup
  (getItem_tuple (j:=j) (Q:=λr s'=>r=w/\EP X pins σ Q r s') pl (by omega) (by omega) (by rw[bC,<-hl];exact h1) (by simpa using ew) ⟨rfl,fin⟩) hs
noncomputable def mB:V->Bool
 |.non=>true
 |.bl _=>true
 |.int _=>true
 |.str _=>true
 |_=>false
noncomputable def eqV:V->V->Bool
 |.non,.non=>true
 |.bl a,.bl b=>a==b
 |.bl a,.int b=>(if a then 1 else 0)==b
 |.int a,.bl b=>a==(if b then 1 else 0)
 |.int a,.int b=>a==b
 |.str a,.str b=>a==b
 |_,_=>false
theorem sP{A:BG}{s:BE}{y x:V}{u v:BD}(ry:RelV y u)(rx:RelV x v)(fy:mB y=true)(fx:mB x=true):SeqAt.EqAt A s u v (eqV y x):=by
 cases y with
 |non=>
  cases ry;cases x with
  |non=>cases rx;exact SeqAt.EqAt.same _
  |bl b=>cases rx;exact SeqAt.EqAt.none_bool b
  |int b=>obtain⟨t,rfl⟩:=rx;exact SeqAt.EqAt.none_int b t
  |str b=>obtain⟨t,rfl⟩:=rx;exact SeqAt.EqAt.none_str b t
  |_=>exact absurd (show false=true from fx) aZ
 |bl a=>
  cases ry;cases x with
  |non=>cases rx;exact SeqAt.EqAt.bool_none a
  |bl b=>cases rx;exact SeqAt.EqAt.bool_bool a b
  |int b=>obtain⟨t,rfl⟩:=rx;exact SeqAt.EqAt.bool_int a b t
  |str b=>obtain⟨t,rfl⟩:=rx;exact SeqAt.EqAt.bool_str a b t
  |_=>exact absurd (show false=true from fx) aZ
 |int a=>
  obtain⟨t',rfl⟩:=ry;cases x with
  |non=>cases rx;exact SeqAt.EqAt.int_none a t'
  |bl b=>cases rx;exact SeqAt.EqAt.int_bool a t' b
  |int b=>obtain⟨t,rfl⟩:=rx;exact SeqAt.EqAt.int_int a t' b t
  |str b=>obtain⟨t,rfl⟩:=rx;exact SeqAt.EqAt.int_str a t' b t
  |_=>exact absurd (show false=true from fx) aZ
 |str a=>
  obtain⟨t',rfl⟩:=ry;cases x with
  |non=>cases rx;exact SeqAt.EqAt.str_none a t'
  |bl b=>cases rx;exact SeqAt.EqAt.str_bool a t' b
  |int b=>obtain⟨t,rfl⟩:=rx;exact SeqAt.EqAt.str_int a t' b t
  |str b=>obtain⟨t,rfl⟩:=rx;exact SeqAt.EqAt.str_str a t' b t
  |_=>exact absurd (show false=true from fx) aZ
 |_=>exact absurd (show false=true from fy) aZ
noncomputable def eqU(x:V)(u:BD):Bool:=match u with
 |.none=>eqV .non x
 |.bool b=>eqV (.bl b) x
 |.int i _=>eqV (.int i) x
 |.str z _=>eqV (.str z) x
 |_=>false
theorem aFk{x y:V}{u:BD}(r:RelV y u)(f:mB y=true):eqU x u=eqV y x:=by
 cases y with
 |non=>cases r;rfl
 |bl b=>cases r;rfl
 |int i=>obtain⟨t,rfl⟩:=r;rfl
 |str z=>obtain⟨t,rfl⟩:=r;rfl
 |_=>exact absurd (show false=true from f) aZ
theorem wN{x:V}:∀ {xs:List V}{us:List BD},Vals xs us->xs.all mB=true->us.any (eqU x)=xs.any λy=>eqV y x
 |_,_,.nil,_=>rfl
 |y::xs,u::us,.cons r t,f=>by rw[aKI,bG] at f;rw[lF,lF,aFk r f.1,wN t f.2]
theorem sM{A:BG}{s:BE}{x:V}{v:BD}(rx:RelV x v)(fx:mB x=true):∀ {xs:List V}{us:List BD},Vals xs us->xs.all mB=true->∀u∈us,SeqAt.EqAt A s u v (eqU x u)
 |_,_,.nil,_=>λu hu=>by cases hu
 |y::xs,u::us,.cons r t,f=>λu' hu=>by
  rw[aKI,bG] at f
  rcases aR.mp hu with rfl|hu
  ·rw[aFk r f.1];exact sP r rx f.1 fx
  ·exact sM rx fx t f.2 u' hu
noncomputable def inV(x:V)(xs:List V):Bool:=xs.any λy=>eqV y x
noncomputable def rIn(K:aA)(neg:Bool):R2:=λx y H Q=>∃p xs,y=.ref p/\(SqL K H p xs\/SqT K H p xs)/\mB x=true/\xs.all mB=true/\Q (.bl (if neg then !inV x xs else inV x xs)) H
theorem aCR:OpR X (Ad .In) (rIn X.K false):=by
 intro pins s σ H x y v u Q I rx ry h;obtain⟨p,xs,rfl,hq,fx,fs,q⟩:=h;cases ry
 rcases hq with hq|hq
 ·obtain⟨its,r,pl,hz⟩:=I.list hq;refine SeqAt.in_listAt (eqU x) pl.isList (λw hw=>sM rx fx r fs w<|by simpa using hw) ⟨.bl _,H,I,rfl, ?_⟩;rw[show its.toArray.any (eqU x)=its.any (eqU x) by simp,wN r fs];exact q
 ·obtain⟨its,r,pl,hz⟩:=I.tuple hq;refine SeqAt.in_tupleAt (eqU x) pl (λw hw=>sM rx fx r fs w<|by simpa using hw) ⟨.bl _,H,I,rfl, ?_⟩;rw[show its.toArray.any (eqU x)=its.any (eqU x) by simp,wN r fs];exact q
theorem oR:kI X (.builtin "len") (λxs H Q=>∃p ys,xs=[.ref p]/\(SqL X.K H p ys\/SqT X.K H p ys)/\Q (.int ys.length) H):=by
 intro pins s σ H xs us Q I r h;obtain⟨p,ys,rfl,hq,q⟩:=h;obtain⟨u,rfl,rx⟩:=rD r;cases rx;have hn:=aBp
 rcases hq with hq|hq
 ·obtain⟨its,r',pl,hz⟩:=I.list hq;have hlen:=r'.length;exact Calls.call_len_list pl.isList (by simp only[bC]<;>omega) ⟨.int ys.length,H,I.tok _,⟨s.toks+1,by rw[bC,hlen]⟩,q⟩
 ·obtain⟨its,r',pl,hz⟩:=I.tuple hq;have hlen:=r'.length;exact len_tuple pl (by simp only[bC]<;>omega) ⟨.int ys.length,H,I.tok _,⟨s.toks+1,by rw[bC,hlen]⟩,q⟩
theorem uY:kI X (.type "tuple") (λxs H Q=>∃p ys,xs=[.ref p]/\((SqL X.K H p ys/\∀l,H l=none->Q (.ref l) (upd H l<|.tup ys))\/(SqT X.K H p ys/\Q (.ref p) H))):=by
 intro pins s σ H xs us Q I r h;obtain⟨p,ys,rfl,h⟩:=h;obtain⟨u,rfl,rx⟩:=rD r;cases rx
 rcases h with⟨hq,q⟩|⟨hq,q⟩
 ·obtain⟨its,r',pl,hz⟩:=I.list hq;have hlen:=r'.length;refine call_tuple_list pl.isList (λh' kp=> ?_) (by simp only[bC]<;>omega);have I1:Inv X pins σ H {s with heap:=h'}:=I.kept (t':=s.toks) kp
  have I2:Inv X pins σ (upd H h'.objs.size<|.tup ys) {s with heap:=h'.push {cls:=.type "tuple",data:=.seq its.toArray}}:=
   I1.laid (t':=s.toks) (λb o e=>aJ _ e) (aO _) (show ObjOk X.prog X.w _ _ _ (.tup ys) from⟨hz,its,r',IsTupD.new _ _⟩)
  exact⟨.ref h'.objs.size,_,I2,rfl,q _ (I1.hok.fresh<|aO _)⟩
 ·obtain⟨its,r',pl,hz⟩:=I.tuple hq;exact call_tuple_same pl ⟨.ref p,H,I,rfl,q⟩
def tyV(K:aA)(T:String)(x:V)(H:Hp):Prop:=match x with
 |.str _=>T="str"
 |.int _=>T="int"
 |.ref p=>(T="list"/\∃xs,SqL K H p xs)\/(T="tuple"/\∃o,K.lookup p=some o/\o.cls=.type "tuple"/\o.dict=none)\/
   (T="dict"/\((∃kvs,H p=some (.dK kvs))\/∃kvs,H p=some (.dT kvs)))\/(T="set"/\∃S n,H p=some (.set S n))
 |_=>False
theorem aJq{pins:List (BF×BI)}{σ:St}{H:Hp}{s:BE}{T:String}{x:V}{v:BD}(I:Inv X pins σ H s)(r:RelV x v)(ty:tyV X.K T x H):
  s.TypeIs v T/\∀a,v=.ref a->∃ob,s.heap.get? a=some ob/\ob.dict=none:=by
 cases x with
 |str z=>obtain⟨t,rfl⟩:=r;cases(show T="str" from ty);exact⟨typeIs_str s z t,λ_ e=>nomatch e⟩
 |int i=>obtain⟨t,rfl⟩:=r;cases(show T="int" from ty);exact⟨typeIs_int s i t,λ_ e=>nomatch e⟩
 |ref p=>
  cases r
  rcases ty with⟨rfl,xs,hq⟩|⟨rfl,o,hk,hc,hd⟩|⟨rfl,hk⟩|⟨rfl,S,n,hk⟩
  ·obtain⟨its,_,pl,_⟩:=I.list hq;refine⟨pl.isList.typeIs,λa e=> ?_⟩;cases e;obtain⟨o,n,e,c,hd,_⟩:=pl;exact⟨o,e,hd⟩
  ·refine⟨⟨o,I.kIn p o hk,hc⟩,λa e=> ?_⟩;cases e;exact⟨o,I.kIn _ o hk,hd⟩
  ·have z:∃o,s.heap.get? p=some o/\o.ExactDict:=by
    rcases hk with⟨kvs,hk⟩|⟨kvs,hk⟩
    ·obtain⟨_,_,_,_,o,_,_,e,ex,_⟩:=I.hok p _ hk;exact⟨o,e,ex⟩
    ·obtain⟨_,_,_,_,o,_,_,e,ex,_⟩:=I.hok p _ hk;exact⟨o,e,ex⟩
   obtain⟨o,e,ex⟩:=z;refine⟨⟨o,e,ex.1⟩,λa e2=> ?_⟩;cases e2;exact⟨o,e,ex.2.1⟩
  ·obtain⟨o,_,_,_,e,ex,_⟩:=I.hok p _ hk;refine⟨⟨o,e,ex.1⟩,λa e2=> ?_⟩;cases e2;exact⟨o,e,ex.2.1⟩
 |_=>exact False.elim ty
noncomputable def tBM(K:aA)(T:String)(r:V->List V->Hp->VK->Prop)(to:TE)(t:TA):TE:=λσ H Q=>to σ H λx H1=>tyV K T x H1/\t σ H1 λxs H2=>r x xs H2 Q
variable {o e:Expr}{es:List Expr}{to:TE}{t:TA}{name:Str}{apos cpos:Pos}{T id:String}{r:V->List V->Hp->VK->Prop}
theorem aAT(pa:PlainAttrs T)(slot:Slot T name id)(hty:typeOf (.builtin id)=pure (.type "method_descriptor"))(hm:MtR X id r)(ho:PE X o to)(ha:PA X (e::es) t)
  (hbase:attributeBase o name X.env (eval o X.env)=eval o X.env:=by rfl)
  (hfew:((Ae cpos (AC (e::es) X.env)).all (fun x=> !x.1) && (backToKw cpos (keywordEach [] X.env)).all (fun x=>x.1.isSome)
  &&decide ((e::es).length+([]:List Keyword).length+(if([]:List Keyword).isEmpty then 0 else 1)<30))=true:=by rfl)
  (hline:(apos.endLine==cpos.line)=true:=by rfl) (hs:AC (e::es) X.env=(false,eval e X.env)::AC es X.env:=by rfl) (hplain:(Ae cpos<|AC es X.env).any (·.1)=false:=by rfl):
  PE X (.Call (.Attribute o name apos) (e::es) [] cpos) (tBM X.K T r to t):=by
 intro pins s σ H Q I h;refine wpAny_Call_method_late hbase hfew hline rfl<|thn (ho pins s σ H _ I h) λv s1 ⟨x,H1,I1,r1,ty,q1⟩=> ?_;obtain⟨h1,h2⟩:=aJq I1 r1 ty;refine⟨T,id,pa,slot,hty,h1,h2, ?_⟩;have hA:=ha cpos pins s1 σ H1 _ I1 q1;rw[hs] at hA ⊢;refine Calls.callWith_builtin (by show(false||(Ae cpos<|AC es X.env).any (·.1))=false;rw[hplain]<;>rfl)<|Calls.evalArgs_plain ?_;exact thn hA λus s2 ⟨vs,H2,I2,r2,q2⟩=>hm pins s2 σ H2 x vs v us Q I2 r1 r2 q2
/- xs.append(e),list.index on a module's tuple .. are MtR facts of 06m -/
end
def MtM(X:Cx)(id:String)(r:V->List V->Hp->VK->Prop):Prop:=
 ∀ (pins:List (BF×BI)) (s:BE) (σ:St) (H:Hp) (x:V) (xs:List V) (v:BD) (us:List BD) (Q:VK),Inv X pins σ H s->RelV x v->Vals xs us->r x xs H Q->
  AK (AH X.prog X.w) X.A (call (.builtin id) (v::us)) (EP X pins σ Q) X.xe s
theorem Vals.one:∀ {x:V}{us:List BD},Vals [x] us->∃u,us=[u]/\RelV x u
 |_,_,.cons r .nil=>⟨_,rfl,r⟩
variable {pins:List (BF×BI)}{σ:St}{H:Hp}{s:BE}{l b:BF}{xs ys zs:List V}
theorem Inv.lset{its its':List BD}{n:Nat}{f:Array BD->Array BD}{t':Nat}(I:Inv X pins σ H s)(hH:H l=some (.lst xs))
  (e:s.heap.get? l=some {cls:=.type "list",data:=.seq its.toArray n}) (hf:f its.toArray=its'.toArray) (hv:Vals ys its') (hz:ys.length<=AL):
  Inv X pins σ (upd H l<|.lst ys) {s with heap:=s.heap.update l<|Obj.mapSeq f,toks:=t'}:=by
 have q:=PySem.IsL.update e f;rw[hf] at q;refine I.write (x:=l) (e:=l) (by rw[hH];exact trivial) (.inl rfl) (λb' u hb hu=>(cB s.heap (Obj.mapSeq f)<|Ne.symm hb).trans hu) ⟨_,q⟩ ?_;exact⟨hz,its',_,hv,q⟩
theorem Inv.lstM(I:Inv X pins σ H s)(hH:H l=some (.lst xs)):xs.length<=AL/\∃ (its:List BD) (n:Nat),Vals xs its/\xs.length=its.length/\s.heap.get? l=some {cls:=.type "list",data:=.seq its.toArray n}:=by obtain⟨z,its,n,r,e⟩:=I.hok l _ hH;exact⟨z,its,n,r,r.length,e⟩
theorem aEh{n:Nat}(h:n<=AL):Builtin.List.listTooLong n=false:=by unfold Builtin.List.listTooLong;exact decide_eq_false<|by omega
def nD:V->List V->Hp->VK->Prop:=λx vs H Q=>∃l xs y,x=.ref l/\vs=[y]/\H l=some (.lst xs)/\xs.length<AL/\Q .non (upd H l (.lst<|xs++[y]))
theorem qI:MtM X "list.append" nD:=by intro pins s σ H x vs v us Q I rx rv h;obtain⟨l,xs,y,rfl,rfl,hH,hz,q⟩:=h;cases rx;obtain⟨u,rfl,ru⟩:=rv.one;obtain⟨z,its,n,r,hl,e⟩:=I.lstM hH;refine call_meets F.slot_list_append ⟨_,e,rfl⟩ F.entry_list_append (F.args_list_append_2 _ _) (PySem.list_append l its.toArray n u<|by rw[bC];omega) ⟨e, ?_⟩;refine⟨.non,_,I.lset (its':=its++[u]) hH e (by simp) (r.append<|.cons ru .nil) ?_,rfl,q⟩;rw[aM,List.length_singleton];omega
def aBO:V->List V->Hp->VK->Prop:=λx vs H Q=>∃l b xs zs,x=.ref l/\vs=[.ref b]/\H l=some (.lst xs)/\H b=some (.lst zs)/\xs.length+zs.length<=AL/\Q .non (upd H l (.lst<|xs++zs))
theorem aCv:MtM X "list.extend" aBO:=by
 intro pins s σ H x vs v us Q I rx rv h;obtain⟨l,b,xs,zs,rfl,rfl,hH,hB,hz,q⟩:=h;cases rx;obtain⟨u,rfl,ru⟩:=rv.one;cases ru;obtain⟨z,its,n,r,hl,e⟩:=I.lstM hH;obtain⟨z2,its2,n2,r2,hl2,e2⟩:=I.lstM hB;have hsz:its.toArray.size+its2.toArray.size<=AL:=by rw[bC,bC];omega
 have hlong:¬ (!its.toArray.isEmpty&&Builtin.List.listTooLong (its.toArray.size+its2.toArray.size))=true:=by rw[aEh hsz,Bool.and_false];exact aZ
 refine call_meets F.slot_list_extend ⟨_,e,rfl⟩ F.entry_list_extend (F.args_list_extend_2 _ _)
  (AutoSeq1.list_extend_list_list_0 l its.toArray n b its2.toArray n2 hlong (by rw[bC];omega)<|by omega) ⟨e,e2, ?_⟩
 refine⟨.non,_,I.lset (its':=its++its2) hH e (by simp) (r.append r2) ?_,rfl,q⟩;rw[aM];omega
section
variable {prog:AF}{w:AM}{A:BG}{E:BD->BE->Prop}{s:BE}
set_option maxRecDepth 100000 in
end
section
variable {κ:Type}[DecidableEq κ]
noncomputable def eK(kvs:List (κ×V))(k:κ):Option V:=(kvs.find? λkv=>decide<|kv.1=k).map (·.2)
noncomputable def pG(kvs:List (κ×V))(k:κ)(v:V):List (κ×V):=
 if(kvs.any λkv=>decide<|kv.1=k)=true then kvs.map (λkv=>if kv.1=k then(kv.1,v) else kv) else kvs++[(k,v)]
theorem fO{p:κ×V}{r:List (κ×V)}{k:κ}(e:p.1=k):eK (p::r) k=some p.2:=by simp[eK,fS,e]
theorem eM{p:κ×V}{r:List (κ×V)}{k:κ}(e:¬ p.1=k):eK (p::r) k=eK r k:=by simp[eK,fS,e]
theorem sV(k:κ):∀kvs:List (κ×V),(kvs.any λkv=>decide<|kv.1=k)=(eK kvs k).isSome
 |[]=>rfl
 |p::r=>by
  rw[lF]
  by_cases e:p.1=k
  ·simp only[fO e,decide_eq_true e,Bool.true_or,Option.isSome_some]
  ·rw[eM e,decide_eq_false e,Bool.false_or];exact sV k r
theorem lA(k j:κ)(y:V):∀kvs:List (κ×V),eK kvs k=none->eK (kvs++[(k,y)]) j=if j=k then some y else eK kvs j
 |[],_=>by
  by_cases e:k=j
  ·rw[if_pos e.symm];exact fO (p:=(k,y)) e
  ·rw[if_neg λz=>e z.symm];exact eM (p:=(k,y)) e
 |p::r,hn=>by
  rw[aHZ];have hk:¬ p.1=k:=λz=>by rw[fO z] at hn;cases hn
  rw[eM hk] at hn;have ih:=lA k j y r hn
  by_cases e:p.1=j
  ·rw[fO e,fO e,if_neg (λz=>hk<|e.trans z)]
  ·rw[eM e,eM e,ih]
theorem rG(kvs:List (κ×V))(k:κ)(v:V):(pG kvs k v).length<=kvs.length+1:=by
 unfold pG
 split
 ·rw[aB];omega
 ·rw[aM,bL,eZ];omega
theorem mO{kvs:List (κ×V)}{k:κ}(v:V)(h:eK kvs k=none):pG kvs k v=kvs++[(k,v)]:=by unfold pG;rw[sV,h];exact if_neg<|by decide
theorem RelO.isSome_eq{o:Option V}{u:Option BD}(r:RelO o u):o.isSome=u.isSome:=by
 cases o with
 |none=>cases u with
  |none=>rfl
  |some _=>exact(show False from r).elim
 |some _=>cases u with
  |none=>exact(show False from r).elim
  |some _=>rfl
theorem RelO.getD{o:Option V}{u:Option BD}{d:V}{d':BD}(r:RelO o u)(rd:RelV d d'):RelV (o.getD d) (u.getD d'):=by
 cases o with
 |none=>cases u with
  |none=>exact rd
  |some _=>exact(show False from r).elim
 |some _=>cases u with
  |none=>exact(show False from r).elim
  |some _=>exact r
theorem KV.val{kvs:List (κ×V)}{vs:List (κ×BD)}(r:KV kvs vs)(k:κ):RelO (eK kvs k) (valueAt vs k):=by
 unfold KV at r
 induction r with
 |nil=>exact True.intro
 |@cons p q ps qs h t ih=>
  obtain⟨h1,h2⟩:=h
  by_cases e:p.1=k
  ·have e':q.1=k:=h1.symm.trans e;have b:valueAt (q::qs) k=some q.2:=by simp[valueAt,fS,e']
   rw[fO e,b];exact h2
  ·have e':¬ q.1=k:=λz=>e (h1.trans z)
   have b:valueAt (q::qs) k=valueAt qs k:=by simp[valueAt,fS,e']
   rw[eM e,b];exact ih
theorem KV.any{kvs:List (κ×V)}{vs:List (κ×BD)}(r:KV kvs vs)(k:κ):(kvs.any λkv=>decide<|kv.1=k)=vs.any λkv=>decide (kv.1=k):=by
 unfold KV at r
 induction r with
 |nil=>rfl
 |cons h t ih=>rw[lF,lF,ih,h.1]
theorem KV.repl{kvs:List (κ×V)}{vs:List (κ×BD)}(r:KV kvs vs)(k:κ){y:V}{u:BD}(ry:RelV y u):
  KV (kvs.map λkv=>if kv.1=k then(kv.1,y) else kv) (vs.map λkv=>if kv.1=k then(kv.1,u) else kv):=by
 unfold KV at r ⊢
 induction r with
 |nil=>exact .nil
 |@cons p q ps qs h t ih=>
  rw[aV,aV];refine .cons ?_ ih;obtain⟨h1,h2⟩:=h
  by_cases e:p.1=k
  ·rw[if_pos e,if_pos<|h1.symm.trans e];exact⟨h1,ry⟩
  ·rw[if_neg e,if_neg (λz=>e<|h1.trans z)];exact⟨h1,h2⟩
theorem KV.put{kvs:List (κ×V)}{vs:List (κ×BD)}(r:KV kvs vs)(k:κ){y:V}{u:BD}(ry:RelV y u):KV (pG kvs k y) (stored vs k u):=by
 unfold pG stored;rw[r.any k]
 by_cases e:(vs.any λkv=>decide<|kv.1=k)=true
 ·rw[if_pos e,if_pos e];exact r.repl k ry
 ·rw[if_neg e,if_neg e];exact Paired.snoc r ⟨rfl,ry⟩
theorem KV.length{kvs:List (κ×V)}{vs:List (κ×BD)}(r:KV kvs vs):kvs.length=vs.length:=Paired.length r
end
theorem aDB{P:AF}{w:AM}{k:Key}{u:BD}(r:RelV (kV k) u):(dG P w).is k u=true:=by
 cases k with
 |inl i=>obtain⟨t,e⟩:=(show ∃t,u=Value.int i t from r);subst e;exact zR P w i t
 |inr x=>obtain⟨t,e⟩:=(show ∃t,u=Value.str x t from r);subst e;exact zH P w x t
theorem vU{P:AF}{w:AM}:∀ {ks:List Key}{us:List BD},Vals (ks.map kV) us->ItemsAre (dG P w) ks us
 |[],_,r=>by rw[dJ] at r;cases r;exact .nil
 |k::ks,_,r=>by
  rw[aV] at r;cases r with
  |cons h t=>exact .cons (aDB h)<|vU t
abbrev KT(H:Hp):List (List Key×V)->List (List Key×BF×BD)->Prop:=Paired λp q=>p.1=q.1/\H q.2.1=some (.tup<|p.1.map kV)/\RelV p.2 q.2.2
theorem KT.val{kvs:List (List Key×V)}{xs:List (List Key×BF×BD)}(r:KT H kvs xs)(k:List Key):RelO (eK kvs k) ((atKey xs k).map (·.2)):=by
 induction r with
 |nil=>exact True.intro
 |@cons p q ps qs h t ih=>
  obtain⟨h1,_,h2⟩:=h
  by_cases e:p.1=k
  ·have e':q.1=k:=h1.symm.trans e;have b:atKey (q::qs) k=some q.2:=by simp[atKey,fS,e']
   rw[fO e,b];exact h2
  ·have e':¬ q.1=k:=λz=>e (h1.trans z)
   have b:atKey (q::qs) k=atKey qs k:=by simp[atKey,fS,e']
   rw[eM e,b];exact ih
theorem KT.repl{kvs:List (List Key×V)}{xs:List (List Key×BF×BD)}(r:KT H kvs xs)(k:List Key){y:V}{u:BD}(ry:RelV y u):
  KT H (kvs.map λkv=>if kv.1=k then(kv.1,y) else kv) (xs.map<|putAt k u):=by
 induction r with
 |nil=>exact .nil
 |@cons p q ps qs h t ih=>
  rw[aV,aV];refine .cons ?_ ih;obtain⟨h1,h2,h3⟩:=h;unfold putAt
  by_cases e:p.1=k
  ·rw[if_pos e,if_pos<|h1.symm.trans e];exact⟨h1,h2,ry⟩
  ·rw[if_neg e,if_neg (λz=>e<|h1.trans z)];exact⟨h1,h2,h3⟩
theorem KT.put{kvs:List (List Key×V)}{xs:List (List Key×BF×BD)}(r:KT H kvs xs)(k:List Key){y:V}{u:BD}(hb:H b=some (.tup<|k.map kV))(ry:RelV y u):
  KT H (pG kvs k y) (storedH xs k b u):=by
 have e:(kvs.any λkv=>decide<|kv.1=k)=(atKey xs k).isSome:=by rw[sV,(r.val k).isSome_eq,aDu]
 unfold pG storedH;rw[e]
 by_cases q:(atKey xs k).isSome=true
 ·rw[if_pos q,if_pos q];exact r.repl k ry
 ·rw[if_neg q,if_neg q];exact Paired.snoc r ⟨rfl,hb,ry⟩
theorem KT.keeps{H':Hp}{kvs:List (List Key×V)}{xs:List (List Key×BF×BD)}(r:KT H kvs xs)(ht:∀b ys,H b=some (.tup ys)->H' b=some (.tup ys)):KT H' kvs xs:=
 Paired.mapP r λ_ _ z=>⟨z.1,ht _ _ z.2.1,z.2.2⟩
variable {P:AF}{w:AM}{h:BH}{a:BF}
theorem aII{u:HO}(ok:HOk P w H h)(e:Rd H a u):ObjOk P w H h a u:=e.ok ok
theorem aGq{kvs:List (Key×V)}(ok:HOk P w H h)(e:Rd H a (.dK kvs)):kvs.length<=AL/\(a==AU)=false/\∃vs,KV kvs vs/\h.DictOf (dG P w) a vs:=
 show ObjOk P w H h a (.dK kvs) from aII ok e
theorem aIU{kvs:List (Key×V)}(ok:HOk P w H h)(e:H a=some (.dK kvs)):kvs.length<=AL/\(a==AU)=false/\∃vs,KV kvs vs/\h.DictOf (dG P w) a vs:=aGq ok<|.inl e
theorem lH{ks:List Key}(ok:HOk P w H h)(e:H a=some (.tup<|ks.map kV)):(AN<|dG P w).is h ks a:=by obtain⟨_,its,r,o,h1,h2,⟨n,h3⟩,_⟩:=(show ObjOk P w H h a (.tup<|ks.map kV) from ok a _ e);exact⟨o,its.toArray,n,h1,h2,h3,by simpa using vU r⟩
theorem aGi{kvs:List (List Key×V)}(ok:HOk P w H h)(e:Rd H a (.dT kvs)):kvs.length<=AL/\(a==AU)=false/\
  ∃xs,KT H kvs xs/\h.DictOfH (AN<|dG P w) a xs:=by
 obtain⟨z,y,xs,r,o,es,ep,h1,h2,h3,h4,h5⟩:=(show ObjOk P w H h a (.dT kvs) from aII ok e);refine⟨z,y,xs,r,o,es,ep,h1,h2,h3,h4,λx hx=> ?_,h5⟩
 have all:∀ {l:List (List Key×V)}{m:List (List Key×BF×BD)},KT H l m->∀x∈m,(AN<|dG P w).is h x.1 x.2.1:=by
  intro l m q
  induction q with
  |nil=>intro x hx;exact nomatch hx
  |@cons p q ps qs hq t ih=>
   intro x hx
   rcases aR.mp hx with e|hx
   ·subst e;exact lH ok (by rw[<-hq.1];exact hq.2.1)
   ·exact ih x hx
 exact all r x hx
theorem aLk{kvs:List (List Key×V)}(ok:HOk P w H h)(e:H a=some (.dT kvs)):kvs.length<=AL/\(a==AU)=false/\
  ∃xs,KT H kvs xs/\h.DictOfH (AN<|dG P w) a xs:=aGi ok<|.inl e
def DGet(H:Hp)(a:BF)(y:V)(r:Option V):Prop:=
 (∃kvs k,Rd H a (.dK kvs)/\y=kV k/\r=eK kvs k)\/∃kvs k b,Rd H a (.dT kvs)/\y=.ref b/\H b=some (.tup<|k.map kV)/\r=eK kvs k
def DPut(H:Hp)(a:BF)(y v:V)(H':Hp):Prop:=
 (∃kvs k,H a=some (.dK kvs)/\y=kV k/\kvs.length<AL/\H'=upd H a (.dK<|pG kvs k v))\/
 ∃kvs k b,H a=some (.dT kvs)/\y=.ref b/\H b=some (.tup<|k.map kV)/\kvs.length<AL/\H'=upd H a (.dT<|pG kvs k v)
theorem DGet.k{H:Hp}{a:BF}{kvs:List (Key×V)}{k:Key}(e:H a=some (.dK kvs)):DGet H a (kV k) (eK kvs k):=.inl ⟨kvs,k,.inl e,rfl,rfl⟩
theorem DPut.k{H:Hp}{a:BF}{kvs:List (Key×V)}{k:Key}{v:V}(e:H a=some (.dK kvs))(hl:kvs.length<AL):DPut H a (kV k) v (upd H a (.dK<|pG kvs k v)):=.inl ⟨kvs,k,e,rfl,hl,rfl⟩
variable {y v:V}{u r:BD}{o:Option V}{A:BG}{E:BD->BE->Prop}
theorem Inv.big(I:Inv X pins σ H s):AU<s.heap.objs.size:=by have h:AO<s.heap.objs.size:=(I.mod.glob.keeps I.bk).lt;exact mU (by decide) h
theorem lO{h':BH}{t':Nat}{ob:HO}(I:Inv X pins σ H s)(mu:Mut (H a))(hs:Heap.SameBut a s.heap h')(he:∃q,h'.get? a=some q)(new:ObjOk X.prog X.w (upd H a ob) h' a ob):
  Inv X pins σ (upd H a ob) {s with heap:=h',toks:=t'}:=
 I.write (x:=a) (e:=a) mu (.inl rfl) (λb q hb z=>(hs.2 b hb).trans z) he new
theorem aFm{H':Hp}{h':BH}{kvs:List (Key×V)}{vs:List (Key×BD)}(z:kvs.length<=AL)(hd:(a==AU)=false)(rel:KV kvs vs)(dd:h'.DictOf (dG P w) a vs):
  ObjOk P w H' h' a (.dK kvs):=⟨z,hd,vs,rel,dd⟩
theorem aCF{H':Hp}{Q:Unit->BE->Prop}(hu:A.units+1<AQ)(I:Inv X pins σ H s)(g:DPut H a y v H')(ry:RelV y u)(rv:RelV v r)(h:∀s',Inv X pins σ H' s'->Q () s'):
  AK (AH X.prog X.w) A (setItem (.ref a) u r) Q E s:=by
 rcases g with⟨kvs,k,e,ey,l,eH⟩|⟨kvs,k,b,e,ey,eb,l,eH⟩
 ·subst ey eH;obtain⟨z,hd,vs,rel,dd⟩:=aIU I.hok e;have hz:vs.length<=AL:=by rw[<-rel.length];exact z
  have hl:(pG kvs k v).length<=AL:=by have:=rG kvs k v;omega
  refine wpAny_setItem_pairs (hsz:=hz) (aDB ry) dd λh' dd' hs=>h _ ?_
  have he:∃q,h'.get? a=some q:=let ⟨q,_,_,hq,_⟩:=dd';⟨q,hq⟩
  exact lO I (by rw[e];exact True.intro) hs he<|aFm hl hd (rel.put k rv) dd'
 ·subst ey eH;cases(show u=Value.ref b from ry);obtain⟨z,hd,xs,rel,dd⟩:=aLk I.hok e;have hz:xs.length<=AL:=by rw[<-Paired.length rel];exact z
  have hl:(pG kvs k v).length<=AL:=by have:=rG kvs k v;omega
  refine wpAny_setItem_heap (hsz:=hz) (Al hu) (lH I.hok eb) dd λh' dd' hs=>h _ ?_
  obtain⟨q,es,ep,hq,h2,h3,h4,_,h5⟩:=dd';refine lO I (by rw[e];exact True.intro) hs ⟨q,hq⟩ ⟨hl,hd,_,(rel.put k eb rv).keeps λc ys ec=> ?_,q,es,ep,hq,h2,h3,h4,h5⟩;rw[bD<|aLb ec e λz=>nomatch z];exact ec
def aLM(i:Expr):Prop:=∀ov iv,subscripted i false ov iv=operate [ov,iv] (getItem ov iv)
theorem aHz{prog:AF}{env:Env}{value slice:Expr}{T id:String}{Q:BD->BE->Prop}
  (hl:typeLookup (.type T) "__getitem__"=pure (some<|.builtin id)) (hs:aLM slice)
  (h:AK (AH prog w) A (eval value env) (λo s₁=>AK (AH prog w) A (eval slice env) (λi s₂=>s₂.TypeIs o T/\AK (AH prog w) A (getItem o i) Q E s₂) E s₁) E s):
  AK (AH prog w) A (eval (.Subscript value slice pos) env) Q E s:=by
 refine Subscript_<|AW h (λo s₁ h₁=>AW h₁ (λi s₂ h₂=> ?_) λ_ _ x=>x) λ_ _ x=>x;obtain⟨hT,h₂⟩:=h₂;unfold subscriptTail;refine AA ?_;rw[getitemInPython_of_ne hT.not_modules];refine AA<|BB hT hl ?_
 have fin:AK (AH prog w) A (subscripted slice false o i) (λr s₃=>AK (AH prog w) A (letTemporaryGo value o r>>=λ_=>pure r) Q E s₃) E s₂:=by rw[hs o i];exact wpAny_operating<|AW h₂ (λr s₃ h₃=>AA (wpAny_letTemporaryGo<|AB h₃)) λ_ _ x=>x
 first
  |exact AB (AA fin)
  |exact AA (AB<|AA fin)
  |exact AA fin
noncomputable def aIA(td ty tv:TE):TS:=λD σ H=>tv σ H λv H1=>td σ H1 λx H2=>ty σ H2 λy H3=>∃a H4,x=.ref a/\DPut H3 a y v H4/\D.nx σ H4
variable {o i value:Expr}{pos' tpos:Pos}{td ty tv:TE}
theorem aHJ(hu:X.A.units+1<AQ)(ho:PE X o td)(hi:PE X i ty)(hv:PE X value tv)(hs:AV value (some<|.Subscript o i pos') pos.line X.env=pure false):
  PS X (.Assign [.Subscript o i pos'] value pos) (aIA td ty tv):=by
 intro pins s σ H D I h;refine wpAny_Assign_Subscript (thn (hv pins s σ H _ I h) λr s1 ⟨v,H1,I1,rv,q1⟩=>thn (ho pins s1 σ H1 _ I1 q1) λu s2 ⟨x,H2,I2,rx,q2⟩=>thn (hi pins s2 σ H2 _ I2 q2) λiv s3 ⟨y,H3,I3,ry,a,H4,ex,g,q3⟩=> ?_) hs;subst ex;obtain rfl:u=Value.ref a:=rx;exact aCF hu I3 g ry rv λs4 I4=>⟨σ,H4,I4,q3⟩
theorem aDV(h:BH)(hb:AU<h.objs.size):ObjOk P w H (h.push {cls:=.type "dict",data:=.dict #[]}) h.objs.size (.dK []):=
 ⟨bJ _,beq_eq_false_iff_ne.mpr (Ne.symm<|bN hb),[],.nil,Heap.DictOf.new h⟩
noncomputable def aJn:TE:=λ_ H Q=>∀p,H p=none->Q (.ref p) (upd H p<|.dK [])
theorem aEH:PE X (.Dict [] [] pos) aJn:=λpins s σ H Q I h=>wpAny_Dict_empty ⟨.ref s.heap.objs.size,_,I.laid (a:=s.heap.objs.size) (o:=.dK []) (t':=s.toks) (λ_ _ q=>aJ _ q) (aO _)<|aDV s.heap I.big,rfl,h _ (I.hok.fresh<|aO _)⟩
abbrev VV:List (V×V)->List (BD×BD)->Prop:=Paired λp q=>RelV p.1 q.1/\RelV p.2 q.2
structure M1(X:Cx)(o:Expr)(m:Str)(apos:Pos)(e:Expr)(cpos:Pos):Prop where
 base:attributeBase o m X.env (eval o X.env)=eval o X.env
 few:((Ae cpos (AC [e] X.env)).all (fun x=> !x.1) && (backToKw cpos (keywordEach [] X.env)).all (fun x=>x.1.isSome)
 &&decide (([e]:List Expr).length+([]:List Keyword).length+(if([]:List Keyword).isEmpty then 0 else 1)<30))=true
 line:(apos.endLine==cpos.line)=true
 trees:Ae cpos (AC [e] X.env)=[(false,eval e X.env)]
structure M2(X:Cx)(o:Expr)(m:Str)(apos:Pos)(e f:Expr)(cpos:Pos):Prop where
 base:attributeBase o m X.env (eval o X.env)=eval o X.env
 few:((Ae cpos (AC [e,f] X.env)).all (fun x=> !x.1) && (backToKw cpos (keywordEach [] X.env)).all (fun x=>x.1.isSome)
 &&decide (([e,f]:List Expr).length+([]:List Keyword).length+(if([]:List Keyword).isEmpty then 0 else 1)<30))=true
 line:(apos.endLine==cpos.line)=true
 trees:Ae cpos (AC [e,f] X.env)=[(false,eval e X.env),(false,eval f X.env)]
def IsD(H:Hp)(a:BF):Prop:=(∃kvs,Rd H a<|.dK kvs)\/∃kvs,Rd H a<|.dT kvs
theorem aJm(I:Inv X pins σ H s)(d:IsD H a):
  s.TypeIs (.ref a) "dict"/\(∀b,Value.ref a=.ref b->∃ob,s.heap.get? b=some ob/\ob.dict=none)/\(a==AU)=false:=by
 rcases d with⟨kvs,e⟩|⟨kvs,e⟩
 ·obtain⟨_,hd,vs,_,dd⟩:=aGq I.hok e;refine⟨dd.typeIs,λb q=> ?_,hd⟩;cases q;obtain⟨ob,_,_,h1,h2,_⟩:=dd;exact⟨ob,h1,h2.2.1⟩
 ·obtain⟨_,hd,xs,_,dd⟩:=aGi I.hok e;refine⟨dd.typeIs,λb q=> ?_,hd⟩;cases q;obtain⟨ob,_,_,h1,h2,_⟩:=dd;exact⟨ob,h1,h2.2.1⟩
variable {d:V}{o:Option V}
theorem aJQ{Q:BD->BE->Prop}(hu:A.units+1<AQ)(I:Inv X pins σ H s)(g:DGet H a y o)(ry:RelV y u)(rd:RelV d r)(h:∀w' s',Inv X pins σ H s'->RelV (o.getD d) w'->Q w' s'):
  AK (AH X.prog X.w) A (call (.builtin "dict.get") [.ref a,u,r]) Q E s:=by
 rcases g with⟨kvs,k,e,ey,l⟩|⟨kvs,k,b,e,ey,eb,l⟩
 ·subst ey;obtain⟨z,hd,vs,rel,dd⟩:=aGq I.hok e;refine call_meetsIn mH dd.typeIs yQ (wL _ _ _) (meets_dict_get_default (dG X.prog X.w) a (aDB ry) hd r) ⟨_,dd.mapOf,h _ _ (I.tok _) ?_⟩;rw[l];exact(rel.val k).getD rd
 ·subst ey;cases(show u=Value.ref b from ry);obtain⟨z,hd,xs,rel,dd⟩:=aGi I.hok e;refine call_meetsIn mH dd.typeIs yQ (wL _ _ _) (meetsH_dict_get_default (AN<|dG X.prog X.w) a b hd r) ⟨Al hu,k,xs,lH I.hok eb,dd,h _ _ (I.tok _) ?_⟩;rw[l];exact(rel.val k).getD rd
noncomputable def aJk(td ty tx:TE):TE:=λσ H Q=>td σ H λx H1=>∃a,x=.ref a/\IsD H1 a/\ty σ H1 λy H2=>tx σ H2 λz H3=>∃o,DGet H3 a y o/\Q (o.getD z) H3
variable {o f:Expr}{apos cpos:Pos}{tx:TE}
theorem aEC(hu:X.A.units+1<AQ)(ho:PE X o td)(he:PE X e ty)(hf:PE X f tx)(m:M2 X o "get" apos e f cpos):PE X (.Call (.Attribute o "get" apos) [e,f] [] cpos) (aJk td ty tx):=by
 intro pins s σ H Q I h;refine wpAny_Call_method m.base m.few m.line iM mH PySem.F.type_dict_get<|thn (ho pins s σ H _ I h) λu s1 ⟨x,H1,I1,rx,a,ex,d,q1⟩=> ?_;subst ex;obtain rfl:u=Value.ref a:=rx;obtain⟨t1,t2,_⟩:=aJm I1 d;refine⟨t1,t2, ?_⟩;rw[m.trees]
 refine Calls.callWith_builtin rfl (Calls.evalArgs_plain<|Calls.spliced_cons (thn (he pins s1 σ H1 _ I1 q1) λiv s2 ⟨y,H2,I2,ry,q2⟩=>Calls.spliced_cons<|thn (hf pins s2 σ H2 _ I2 q2) λfv s3 ⟨z,H3,I3,rz,ov,g,q3⟩=>Calls.spliced_nil ?_))
 exact aJQ hu I3 g ry rz λw' s4 I4 rw'=>⟨_,H3,I4,rw',q3⟩
end L2
namespace Att
open PySem PySem.W PySem.Calls PyProof.Rows
theorem rL{P:Params}{h:BH}:∀ (ns:List Int) (vs:List BD),WellAll P h vs (ns.map WData.int)->IntsAre vs ns:=by
 intro ns
 induction ns with
 |nil=>intro vs w;rw[dJ] at w;cases w;exact .nil
 |cons n ns ih=>
  intro vs w;rw[aV] at w;cases w with
  |cons a b=>cases a;exact .cons _ _<|ih _ b
theorem aCj{l:OpenLaw}{n:Nat}(hn:l.most=some n){P:Params}{h:BH}{args:List WData}{vals:List BD}
  (hpre:l.row.toRowW.claim.pre args=true) (hwl:WellAll P h vals args):
  ∃a vs ns,vals=[Value.ref a]/\args=[WData.list<|ns.map WData.int]/\h.get? a=some {cls:=.type "list",data:=.seq vs.toArray}/\IntsAre vs ns/\ns.length<=n:=by
 have hsh:WShape.hasAll [] args [.list .int]=true:=(pre_splitW hpre).1;have hc:l.pre.holds [] {args:=args}=true:=(pre_splitW hpre).2;obtain⟨d,r,rfl,h1,h2⟩:=hasAllW_cons hsh;obtain rfl:=hasAllW_nil h2;obtain⟨xs,rfl,h3⟩:=hasW_list h1;obtain⟨ns,rfl⟩:=items_int h3
 have hlen:ns.length<=n:=by
  unfold OpenLaw.pre at hc
  have h4:(WTm.not<|.lt (.lit<|.int (n:Int)) (.len<|.arg 0)).holds [] {args:=[.list<|ns.map .int]}=true:=by have h4:=(holds_andW hc).1;rw[hn] at h4;exact h4
  have h5:=condW_of h4 (w_not<|w_lt w_lit (w_len_list<|w_arg rfl));rw[aB] at h5;refine Nat.le_of_not_lt λq=> ?_
  have q':(n:Int)<((ns.length:Nat):Int):=by omega
  first
   |(rw[decide_eq_true q'] at h5;exact absurd h5<|by decide)
   |(simp at h5;omega)
 cases hwl with
 |cons w1 w2=>
  cases w2;cases w1 with
  |list ho hall=>exact⟨_,_,ns,rfl,rfl,ho,rL ns _ hall,hlen⟩
theorem aCL(l:OpenLaw)(args:List WData):l.row.toRowW.claim.post args (.bool true) args=true:=
 postW_of (r:=l.row.toRowW) (X:=(true==true))
  (show WShape.has [] (.bool true) .bool=true by first|rfl|decide|simp[WShape.has,WShape.arms,WShape.armsAll])
  (show(WTm.eq .res (.lit<|.bool true)).value [] {args:=args,res:=some<|.bool true,after:=args}=some (.bool<|true==true) from w_eq_bool (w_res rfl) w_lit) rfl
theorem attach_call{l:OpenLaw}{n:Nat}{q:AF}{loose:List Str}{XP:(Str->Option BD)->BH->Prop}{YP:AM->BH->Prop}{d:DefRec}
  (hn:l.most=some n) (hdf:d.params.defaults=[])
  (call:∀ (w:AM) (s₀ s₁:BE) (mg mb:Str→Option BD) (fa:BF) (o:BI) (pm cd doc:BD) (a:BF) (vs:List BD) (ns:List Int),
   Ground q loose [] XP w s₀ mg mb s₁.heap->YP w s₁.heap->
   s₁.heap.get? fa=some o->o.data=.func (docDef d.name d.params d.body d.scope pm cd doc)->s₁.heap.CodeRec cd d.name->mg d.name=some (.ref fa)->
   s₁.heap.get? a=some {cls:=.type "list",data:=.seq vs.toArray}->IntsAre vs ns->ns.length<=n->s₁.gens= #[]->
   codeAny (AH l.prog w) callerA (.call (.ref fa) ⟨[.ref a],[]⟩) (λr s'=>r=.ok (.ret (.bool true))/\OldK s₁.heap s'.heap/\s'.os=s₁.os/\AllBare s'.gens) s₁):
  WalkO q loose XP YP l.row.toRowW d [] (λf vs=>PySem.call f vs):=by
 intro w s₀ s₁ mg mb G Y fa o pm cd doc dV kV ho hd hcd hD hmg hg args vals as hpre hlay hrd hwl hlo;obtain rfl:dV=.none:=Dflts.none hD hdf;obtain rfl:kV=.none:=Dflts.noKw hD;obtain⟨a,vs,ns,rfl,rfl,hobj,hints,hlen⟩:=aCj hn hpre hwl;refine enter_call<|Az (call w s₀ s₁ mg mb fa o pm cd doc a vs ns G Y ho (fd_plain hd) hcd hmg hobj hints hlen hg) λr s' hq=> ?_;obtain⟨rfl,h2,h3,h4⟩:=hq;exact⟨.inl ⟨.bool true,.bool true,[],rfl,λ_=>rfl,.bool true,aCL l _,λ_=>⟨List.Pairwise.nil,λ_ hm=>(nomatch hm)⟩⟩,h2,h3,h4⟩
end Att
namespace L2
open PySem PySem.Spec PyProof.Rows
theorem vS:∀ {vs:List BD}{ns:List Int},IntsAre vs ns->Vals (ns.map V.int) vs
 |_,_,.nil=>.nil
 |_,_,.cons n t h=>.cons ⟨t,rfl⟩<|vS h
def aKA(H:Hp):Prop:=∀b,H b=none\/∃o xs,H b=some (.frz o<|.lst xs)
theorem aEF{P:AF}{w:AM}{K:aA}{mg mb:Str->Option BD}{CX:CXT}{k:Nat}{fa a:BF}{fd:AX}{x:Str}{sp:Sp}{s₁:BE}{vs:List BD}{ns:List Int}
  (KX:K.In s₁.heap) (hns:s₁.heap.Ns AO mg) (hb:s₁.heap.Ns builtinsNs mb) (hbb:∀x:Str,x≠"__name__"->mb x=Ac x) (hlim:s₁.heap.NoLimit) (hg:s₁.gens= #[])
  (ha:s₁.heap.get? a=some {cls:=.type "list",data:=.seq vs.toArray}) (hi:IntsAre vs ns) (hl:ns.length<=AL) (hr:Room k callerA)
  (F:∀base:BH,K.In base->base.Ns AO mg->FnOk P w K mg base CX k fa fd [x] sp) (hbind:∀ (s:BE) (u:BD),BindsTo s fd ⟨[u],[]⟩ [(x,u)])
  (hsp:∀H:Hp,aKA H->SqL K H a (ns.map V.int)->sp [.ref a] H (λv _=>v=.bl true) λ_ _ _=>False)
  (hCX:∀H e s',CX [] H s₁ (λ_ _ _=>False) e s'->False):
  codeAny (AH P w) callerA (.call (.ref fa) ⟨[.ref a],[]⟩) (λr s'=>r=.ok (.ret<|.bool true)/\OldK s₁.heap s'.heap/\s'.os=s₁.os/\AllBare s'.gens) s₁:=by
 have rv:=vS hi;have lenV:=hi.length
 have core:∀H:Hp,aKA H->SqL K H a (ns.map V.int)->HOk P w H s₁.heap->(∀b,H b≠none->b=a)->(H a≠none->K.lookup a=none)->
   codeAny (AH P w) callerA (.call (.ref fa) ⟨[.ref a],[]⟩) (λr s'=>r=.ok (.ret<|.bool true)/\OldK s₁.heap s'.heap/\s'.os=s₁.os/\AllBare s'.gens) s₁:=by
  intro H hO hS hok hA hK;have base_of:∀ {b:BF}{o:BI},s₁.heap.get? b=some o->H b=none->(yJ s₁.heap H).get? b=some o:=λe n=>aEm e n
  have noA:∀ {b:BF}{o:BI}{es:Array DictEntry}{ep:Nat},s₁.heap.get? b=some o->o.data=.dict es ep->H b=none:=λ{b o es ep} e d=>by
   cases q:H b with
   |none=>rfl
   |some u=>have e':b=a:=hA b (by rw[q];simp);subst e';rw[ha] at e;cases e;have d':Data.seq vs.toArray _=Data.dict es ep:=d;cases d'
  have nsK:∀ {b:BF}{m:Str->Option BD},s₁.heap.Ns b m->(yJ s₁.heap H).Ns b m:=λ{b m} ⟨o,es,ep,e,d,r⟩=>⟨o,es,ep,base_of e<|noA e d,d,r⟩
  have hKb:K.In (yJ s₁.heap H):=fun b o e=>base_of (KX b o e) (by
   cases q:H b with
   |none=>rfl
   |some u=>
    have e':b=a:=hA b (by rw[q];simp);subst e'
    rw[hK (by rw[q];simp)] at e;cases e)
  have hM:Mod K mg (yJ s₁.heap H):=⟨hKb,nsK hns,⟨mb,nsK hb,hbb⟩,let ⟨mc,h1,h2⟩:=hlim;⟨mc,nsK h1,h2⟩⟩;have e0:aIg P w K mg (yJ s₁.heap H) callerA [] s₁ H:=⟨rfl,hM,λb o e=>aHW e,aDm<|aDa _ _,trivial,λb hb=>absurd (show b∈([]:List BF) from hb)<|by simp,hok,.of_eq hg⟩;refine Az ((F _ hKb<|nsK hns).run callerA [] s₁ H ⟨[.ref a],[]⟩ [.ref a] [.ref a] _ _ hr e0 (hbind s₁<|.ref a) (.cons rfl .nil)<|hsp H hO hS) λr s' h=> ?_
  cases r with
  |error e=>exact(hCX H e s' h).elim
  |ok fl=>
   cases fl with
   |next=>exact False.elim h
   |brk=>exact False.elim h
   |cont=>exact False.elim h
   |ret u=>
    obtain⟨v,H',os,bare,un,hok',r',q⟩:=h;have q':v=.bl true:=q;subst q';obtain rfl:u=Value.bool true:=r';refine⟨rfl,OldK.of_keep λb o e=> ?_,os,bare⟩;cases q:H b with
    |none=>exact un.keep b o e q (by intro z;exact absurd (show b∈([]:List BF) from z)<|by simp)<|by simp
    |some u=>
     rcases hO b with z|⟨ob,xs,z⟩
     ·rw[q] at z;cases z
     ·have z2:=un.frzs b ob _ z;obtain⟨e1,_⟩:=hok b _ z;obtain⟨e2,_⟩:=hok' b _ z2;rw[e] at e1;cases e1;exact e2
 cases hk:K.lookup a with
 |some o=>
  have e:=KX a o hk;rw[ha] at e;cases e;refine core (λ_=>none) (λ_=>.inl rfl) (.inr ⟨_,vs.toArray,_,hk,rfl,rfl,rfl,by rw[bC,lenV];exact hl,by simpa using rv⟩) (λb u z=>by have z':(none:Option HO)=some u:=z;cases z') (λb z=>absurd rfl z) λz=>absurd rfl z
 |none=>
  refine core (λb=>if b=a then some (.frz {cls:=.type "list",data:=.seq vs.toArray} (.lst<|ns.map V.int)) else none) (λb=> ?_) (.inl<|.inr ⟨{cls:=.type "list",data:=.seq vs.toArray},if_pos rfl⟩) (λb u z=> ?_) (λb z=> ?_) λ_=>hk
  ·by_cases hb:b=a
   ·exact .inr ⟨_,_,if_pos hb⟩
   ·exact .inl<|if_neg hb
  ·by_cases hb:b=a
   ·have z':=(if_pos hb).symm.trans z;cases z';subst hb;exact⟨ha,by rw[aB];exact hl,vs,_,rv,ha⟩
   ·have z':=(if_neg hb).symm.trans z;cases z'
  ·by_cases hb:b=a
   ·exact hb
   ·exact absurd (if_neg hb) z
noncomputable abbrev KOf{K:aA}{h:BH}(_:K.In h):aA:=K
theorem walk_of{l:PySem.W.OpenLaw}{n k:Nat}{q:AF}{loose:List Str}{XP:(Str->Option BD)->BH->Prop}{YP:AM->BH->Prop}{d:DefRec}{K:Params->aA}{CX:AM->CXT}{sp:AM->Sp}{x:Str}
  (hn:l.most=some n) (hn2:n<=AL) (hdf:d.params.defaults=[]) (hr:Room k callerA)
  (hY:∀ (w:AM) (h:BH),YP w h->(K w.params).In h)
  (F:∀ (w:AM) (mg:Str→Option BD) (fa:BF) (h:BH),(K w.params).In h→h.Ns AO mg→mg d.name=some (.ref fa)→
   ∃fd:AX,(∀ (s:BE) (u:BD),BindsTo s fd ⟨[u],[]⟩ [(x,u)])/\
    ∀base:BH,(K w.params).In base->base.Ns AO mg->FnOk l.prog w (K w.params) mg base (CX w) k fa fd [x] (sp w))
  (hsp:∀ (w:AM) (H:Hp) (a:BF) (ns:List Int),ns.length<=n->aKA H->SqL (K w.params) H a (ns.map V.int)->sp w [.ref a] H (λv _=>v=.bl true) λ_ _ _=>False)
  (hCX:∀ (w:AM) (H:Hp) (s:BE) (e:BD) (s':BE),CX w [] H s (λ_ _ _=>False) e s'->False):
  PySem.W.WalkO q loose XP YP l.row.toRowW d [] (λf vs=>PySem.call f vs):=by
 refine Att.attach_call hn hdf λw s₀ s₁ mg mb fa o pm cd doc a vs ns G Y ho hd hcd hmg hobj hints hlen hg=> ?_
 have KX:=hY w _ Y;obtain⟨fd,hb,hF⟩:=F w mg fa _ KX G.T.g hmg;exact aEF KX G.T.g G.T.b G.T.builtins G.T.nolimit hg hobj hints (cC hlen hn2) hr hF hb (λH hO hS=>hsp w H a ns hlen hO hS) λH e s'=>hCX w H s₁ e s'
noncomputable def gL(s:BJ):Arguments:=match s with
 |.FunctionDef _ a _ _ _ _ _ _ _ _=>a
 |_=>{posonlyargs:=[],args:=[],vararg:=none,kwonlyargs:=[],kw_defaults:=[],kwarg:=none,defaults:=[]}
noncomputable def dY(s:BJ):List BJ:=match s with
 |.FunctionDef _ _ b _ _ _ _ _ _ _=>b
 |_=>[]
noncomputable def bF(s:BJ):Scope:=match s with
 |.FunctionDef _ _ _ _ _ _ sc _ _ _=>sc
 |_=>{kind:=.function,names:=[],isGenerator:=false,isCoroutine:=false}
noncomputable abbrev CX0:CXT:=λ_ _ _ _ _ _=>False
noncomputable abbrev E0:XK:=λ_ _ _=>False
theorem aID{X:Cx}:aBk CX0 X E0:=λ_ _ _ _ _ _ _ h=>h.elim
structure Fun(K:aA)(x qual:Str)(st:BJ)(f:BF)(fd:AX):Prop where
 ex:∃ (oc:BD) (od:Option BF) (kV doc pm:BD) (an:Option BF) (cdv ct:BD) (osl:Array (Option BD)),
  fd=dI x qual (gL st) (dY st) (bF st) .none kV doc pm an cdv ct/\K.lookup f=some ⟨oc,od,.func fd,osl⟩/\iV K cdv qual=true
 kp:eO K (.ref f)=true
variable {P:AF}{w:AM}{K:aA}{mg:Str->Option BD}{base:BH}
theorem Fun.ok{x qual:Str}{st:BJ}{f:BF}{fd:AX}{N ps:List Str}{k:Nat}{sp:Sp}(F:Fun K x qual st f fd)(S:jD N ps (bF st))(len:∀vs H Q E,sp vs H Q E->vs.length=ps.length)
  (hbody:∀ (cdv:BD) (A:BG) (outer:List Env) (s:BE) (H:Hp) (vs:List V) (Q:VK) (E:XK),Room k (A.deeper (As qual (bF st) s.heap.objs.size f cdv))→sp vs H Q E→
   ∃t,PSs (jL CX0 P w K mg base N qual (bF st) f cdv A outer s H E).nox (dY st) t/\t {nx:=λ_ H'=>Q .non H',rt:=Q} (start N vs) H):FnOk P w K mg base CX0 (k+1) f fd ps sp:=by
 obtain⟨oc,od,kV,doc,pm,an,cdv,ct,osl,rfl,lk,hcd⟩:=F.ex;refine aIS lk hcd S len λA outer s H vs Q E hr hsp=> ?_
 obtain⟨t,h,q⟩:=hbody cdv A outer s H vs Q E hr hsp;exact⟨t,h.nox,q⟩
theorem Fun.binds{x qual:Str}{st:BJ}{f:BF}{fd:AX}{ps:List Str}(F:Fun K x qual st f fd)
  (h:∀ (kV doc pm:BD) (an:Option BF) (cdv ct:BD) (us:List BD),us.length=ps.length->bindArgs (dI x qual (gL st) (dY st) (bF st) .none kV doc pm an cdv ct) ⟨us,[]⟩=pure (ps.zip us)):Binds K fd ps []:=by
 obtain⟨oc,od,kV,doc,pm,an,cdv,ct,osl,rfl,lk,hcd⟩:=F.ex;exact .all<|h kV doc pm an cdv ct
theorem aFf{x qual:Str}{st:BJ}{f:BF}{oc:BD}{od an:Option BF}{osl:Array (Option BD)}{kV doc pm cdv ct:BD}(l:K.lookup f=some ⟨oc,od,.func<|dI x qual (gL st) (dY st) (bF st) .none kV doc pm an cdv ct,osl⟩)
  (c:iV K cdv qual=true) (k:eO K (.ref f)=true):Fun K x qual st f (dI x qual (gL st) (dY st) (bF st) .none kV doc pm an cdv ct):=⟨⟨oc,od,kV,doc,pm,an,cdv,ct,osl,rfl,l,c⟩,k⟩
theorem eV{n:Nat}(h:n<=10000):n<AL:=cI h<|by decide
variable {X:Cx}
theorem pv(i:Nat){x:Str}{pos:Pos}(hN:X.N[i]? =some x:=by rfl)(hv:Vis X.env.scope x:=by first|exact Or.inl rfl|exact Or.inr (Or.inl rfl)|exact Or.inr (Or.inr rfl))(hd:(x==("__debug__":Str))=false:=by decide)
  (hcd:(x==("__classdict__":Str))=false:=by decide):PE X (.Name x pos) (iX i):=aKi hN hv hd hcd
theorem aFV{A B:Prop}(h:B):if false=true then A else B:=by rw[if_neg aZ];exact h
theorem aFU{A B:Prop}(h:A):if true=true then A else B:=by rw[if_pos rfl];exact h
def Same(H H':Hp):Prop:=∀b o,H b=some o->H' b=some o
theorem Same.refl(H:Hp):Same H H:=λ_ _ h=>h
theorem Same.trans{H H1 H2:Hp}(a:Same H H1)(b:Same H1 H2):Same H H2:=λc o h=>b c o<|a c o h
theorem Same.free{H H':Hp}(e:Same H H'){l:BF}(h:H' l=aKK):H l=aKK:=by
 cases q:H l with
 |none=>rfl
 |some o=>rw[e l o q] at h;cases h
theorem Same.seq{H H':Hp}{a:BF}{xs:List V}(e:Same H H')(h:SqL K H a xs):SqL K H' a xs:=by
 rcases h with(h|⟨o,h⟩)|h
 ·exact .inl (.inl<|e _ _ h)
 ·exact .inl<|.inr ⟨o,e _ _ h⟩
 ·exact .inr h
noncomputable def wE(X:Cx)(e:Expr):TE:=λσ H Q=>∀ (pins:List (BF×BI)) (s:BE),Inv X pins σ H s->AK (AH X.prog X.w) X.A (eval e X.env) (EP X pins σ Q) X.xe s
noncomputable def wT(X:Cx)(e:Expr):TT:=λσ H Q=>∀ (pins:List (BF×BI)) (s:BE),Inv X pins σ H s->AK (AH X.prog X.w) X.A (isTrue e X.env<|eval e X.env) (TP X pins σ Q) X.xe s
noncomputable def wW(X:Cx)(e:Expr):TT:=λσ H Q=>∀ (whole:Sem BD) (pins:List (BF×BI)) (s:BE),Inv X pins σ H s->AK (AH X.prog X.w) X.A (isTrue e X.env whole) (TP X pins σ Q) X.xe s
noncomputable def wA(X:Cx)(es:List Expr):TA:=λσ H Q=>∀ (pos:Pos) (pins:List (BF×BI)) (s:BE),Inv X pins σ H s->AK (AH X.prog X.w) X.A (spliced (Ae pos<|AC es X.env)) (AP X pins σ Q) X.xe s
noncomputable def wS(X:Cx)(st:BJ):TS:=λD σ H=>∀ (pins:List (BF×BI)) (s:BE),Inv X pins σ H s->AK (AH X.prog X.w) X.A (exec st X.env) (SP X pins D) X.xe s
noncomputable def wSs(X:Cx)(sts:List BJ):TS:=λD σ H=>∀ (pins:List (BF×BI)) (s:BE),Inv X pins σ H s->AK (AH X.prog X.w) X.A (execs sts X.env) (SP X pins D) X.xe s
noncomputable def wG(X:Cx)(tg:Expr):TG:=λv σ H Q=>∀ (pins:List (BF×BI)) (s:BE) (u:BD),Inv X pins σ H s->RelV v u->
  AK (AH X.prog X.w) X.A (assign tg X.env u) (λ_ s'=>∃σ' H',Inv X pins σ' H' s'/\Q σ' H') X.xe s
noncomputable def wI(X:Cx)(tg iter:Expr):TI:=λσ H R=>∀ (pins:List (BF×BI)) (s:BE),Inv X pins σ H s->
  AK (AH X.prog X.w) X.A (eval iter X.env) (λv s1=>AK (AH X.prog X.w) X.A (pyIter v) (PIE X pins σ tg R) X.xe s1) X.xe s
variable {e:Expr}{es:List Expr}{st:BJ}{sts:List BJ}{tg iter:Expr}{σ:St}{H:Hp}
theorem fG:PE X e (wE X e):=λpins s _ _ _ I h=>h pins s I
theorem aFW:PT X e (wT X e):=λpins s _ _ _ I h=>h pins s I
theorem aKX:PW X e (wW X e):=λw pins s _ _ _ I h=>h w pins s I
theorem xQ:PA X es (wA X es):=λpos pins s _ _ _ I h=>h pos pins s I
theorem aLZ:PS X st (wS X st):=λpins s _ _ _ I h=>h pins s I
theorem pQ:PSs X sts (wSs X sts):=λpins s _ _ _ I h=>h pins s I
theorem aLU:PG X tg (wG X tg):=λpins s _ _ _ u _ I r h=>h pins s u I r
theorem aLJ:PI X tg iter (wI X tg iter):=λpins s _ _ _ I h=>h pins s I
theorem PE.to{t:TE}{Q:VK}(h:PE X e t)(q:t σ H Q):wE X e σ H Q:=λpins s I=>h pins s σ H Q I q
theorem PT.to{t:TT}{Q:Bool->Hp->Prop}(h:PT X e t)(q:t σ H Q):wT X e σ H Q:=λpins s I=>h pins s σ H Q I q
theorem PW.to{t:TT}{Q:Bool->Hp->Prop}(h:PW X e t)(q:t σ H Q):wW X e σ H Q:=λw pins s I=>h w pins s σ H Q I q
theorem PA.to{t:TA}{Q:List V->Hp->Prop}(h:PA X es t)(q:t σ H Q):wA X es σ H Q:=λpos pins s I=>h pos pins s σ H Q I q
theorem PS.to{t:TS}{D:rN}(h:PS X st t)(q:t D σ H):wS X st D σ H:=λpins s I=>h pins s σ H D I q
theorem PSs.to{t:TS}{D:rN}(h:PSs X sts t)(q:t D σ H):wSs X sts D σ H:=λpins s I=>h pins s σ H D I q
theorem wE.imp{Q Q':VK}(h:wE X e σ H Q)(k:∀v H',Q v H'->Q' v H'):wE X e σ H Q':=λpins s I=>thn (h pins s I) λu s' ⟨v,H',I',r,q⟩=>⟨v,H',I',r,k v H' q⟩
theorem wT.imp{Q Q':Bool->Hp->Prop}(h:wT X e σ H Q)(k:∀v H',Q v H'->Q' v H'):wT X e σ H Q':=λpins s I=>thn (h pins s I) λu s' ⟨H',I',q⟩=>⟨H',I',k u H' q⟩
theorem wW.imp{Q Q':Bool->Hp->Prop}(h:wW X e σ H Q)(k:∀v H',Q v H'->Q' v H'):wW X e σ H Q':=λw pins s I=>thn (h w pins s I) λu s' ⟨H',I',q⟩=>⟨H',I',k u H' q⟩
theorem wA.imp{Q Q':List V->Hp->Prop}(h:wA X es σ H Q)(k:∀v H',Q v H'->Q' v H'):wA X es σ H Q':=λpos pins s I=>thn (h pos pins s I) λu s' ⟨v,H',I',r,q⟩=>⟨v,H',I',r,k v H' q⟩
theorem SP.imp{pins:List (BF×BI)}{D D':rN}{f:Flow}{s:BE}(h:SP X pins D f s)(k1:∀σ H,D.nx σ H->D'.nx σ H)(k2:∀v H,D.rt v H->D'.rt v H)(k3:∀σ H,D.bk σ H->D'.bk σ H)(k4:∀σ H,D.ct σ H->D'.ct σ H):SP X pins D' f s:=by
 cases f with
 |next=>obtain⟨σ',H',I,q⟩:=h;exact⟨σ',H',I,k1 _ _ q⟩
 |brk=>obtain⟨σ',H',I,q⟩:=h;exact⟨σ',H',I,k3 _ _ q⟩
 |cont=>obtain⟨σ',H',I,q⟩:=h;exact⟨σ',H',I,k4 _ _ q⟩
 |ret u=>obtain⟨v,σ',H',I,r,q⟩:=h;exact⟨v,σ',H',I,r,k2 _ _ q⟩
theorem wSs.imp{D D':rN}(h:wSs X sts D σ H)(k1:∀σ H,D.nx σ H->D'.nx σ H)(k2:∀v H,D.rt v H->D'.rt v H)(k3:∀σ H,D.bk σ H->D'.bk σ H)(k4:∀σ H,D.ct σ H->D'.ct σ H):wSs X sts D' σ H:=
 λpins s I=>thn (h pins s I) λf s' q=>q.imp k1 k2 k3 k4
theorem wG.imp{v:V}{Q Q':St->Hp->Prop}(h:wG X tg v σ H Q)(k:∀σ' H',Q σ' H'->Q' σ' H'):wG X tg v σ H Q':=λpins s u I r=>thn (h pins s u I r) λ_ s' ⟨σ',H',I',q⟩=>⟨σ',H',I',k _ _ q⟩
variable {pins:List (BF×BI)}{F:Hp}{s:BE}
theorem HOk.track{h:BH}{a:BF}{o:HO}(ok:HOk P w H h)(hn:H a=none)(new:ObjOk P w (upd H a o) h a o):HOk P w (upd H a o) h:=λb u e=>by
 by_cases hb:b=a
 ·subst hb;rw[bM] at e;cases e;exact new
 ·rw[bD hb] at e;exact(ok b u e).stay (λ_ _ _ q=>q) (λc q=>by rw[bD<|bX q hn];exact q) λc xs q=>by rw[bD<|bX q hn];exact q
theorem Inv.track{a:BF}{o:HO}(I:Inv X pins σ H s)(hn:H a=none)(h0:X.s₀.heap.objs.size<=a)(hL:a≠X.env.locals)(hc:∀x c,X.env.cells.lookup x=some c->c≠a)
  (hp:∀p∈X.pn++pins,p.1≠a) (new:ObjOk X.prog X.w (upd H a o) s.heap a o):Inv X pins σ (upd H a o) s:=by
 refine⟨I.ok,I.os,I.bare,⟨I.base.keep,I.base.slot,λb u e n hx=> ?_,I.base.there,λb xs e=> ?_,λb u xs e=> ?_,λb ps e=> ?_⟩,I.loc,I.cell, ?_,λx c e=> ?_,λp hp'=> ?_,I.hok.track hn new,I.len⟩
 ·rw[bD (bN<|aQ (aP e) h0)];exact I.base.free b u e n hx
 ·have q:=I.base.tups b xs e;rw[bD<|bX q hn];exact q
 ·have q:=I.base.frzs b u xs e;rw[bD<|bX q hn];exact q
 ·obtain⟨m,q⟩:=I.base.tbls b ps e;exact⟨m,by rw[bD<|bX q hn];exact q⟩
 ·rw[bD<|Ne.symm hL];exact I.free
 ·rw[bD<|hc x c e];exact I.freeC x c e
 ·obtain⟨e,n,r⟩:=I.pin p hp';exact⟨e,by rw[bD<|hp p hp'];exact n,r⟩
noncomputable def aKB:HO->Prop
 |.lst _=>True
 |.tup _=>True
 |.dK _=>True
 |.frz _ (.lst _)=>True
 |.frz _ (.dK _)=>True
 |.ext _=>True
 |_=>False
def Smp(H:Hp):Prop:=∀b o,H b=some o->aKB o
theorem ObjOk.smp{h:BH}{a:BF}{o:HO}(z:aKB o)(x:ObjOk P w H h a o):ObjOk P w F h a o:=by
 cases o with
 |lst xs=>exact x
 |tup xs=>exact x
 |dK kvs=>exact x
 |frz ob u=>cases u with
  |lst xs=>exact x
  |dK kvs=>exact x
  |_=>exact absurd z λq=>q
 |ext φ=>exact x
 |_=>exact absurd z λq=>q
theorem Smp.sub(h:Smp H)(s:Same F H):Smp F:=λb o e=>h b o<|s b o e
theorem Inv.less(I:Inv X pins σ H s)(hF:Same F H)(h0:Same X.B₀ F)(hs:Smp F):Inv X pins σ F s:=by
 refine⟨I.ok,I.os,I.bare,⟨I.base.keep,I.base.slot,λb u e n hx=>hF.free<|I.base.free b u e n hx,I.base.there,λb xs e=>h0 _ _<|X.hB _ _ e trivial,λb u xs e=>h0 _ _<|X.hB _ _ e trivial,λb ps e=>⟨#[], ?_⟩⟩,I.loc,I.cell,hF.free I.free,λx c e=>hF.free<|I.freeC x c e,λp hp=> ?_,λb o e=>(I.hok b o<|hF b o e).smp<|hs b o e,I.len⟩
 ·have q:=h0 _ _<|X.hB _ _ e trivial;rw[q];simp
 ·obtain⟨e,n,r⟩:=I.pin p hp;exact⟨e,hF.free n,r⟩
noncomputable def clo(cells:List (Str×BF)):List (Str×NameKind)->List (Str×BF)->List (Str×BF)
 |[],cs=>cs
 |(n,k)::r,cs=>clo cells r (if(k==NameKind.free)=true then(n,(cells.lookup n).getD 0)::cs else cs)
theorem oF{env:Env}:∀ (names:List (Str×NameKind)) (cs:List (Str×BF)),(∀y∈names,y.2=.free->∃c,env.cells.lookup y.1=some c)->
  (forIn names cs (λ(x:Str×NameKind) (r:List (Str×BF))=>if(x.2==NameKind.free)=true then(do let c <-cellOf env x.1;pure (ForInStep.yield ((x.1,c)::r))) else pure (ForInStep.yield r)):Sem (List<|Str×BF))=pure (clo env.cells names cs)
 |[],cs,_=>rfl
 |(n,k)::r,cs,h=>by
  rw[List.forIn_cons]
  by_cases hk:(k==NameKind.free)=true
  ·obtain⟨c,hc⟩:=h (n,k) aE (by simpa using hk)
   have e:cellOf env n=pure c:=by unfold cellOf;have hc':env.cells.lookup n=some c:=hc;rw[hc']
   simp only[hk,if_true,e,pure_bind,clo];have hc':env.cells.lookup n=some c:=hc;rw[hc'];exact oF r _ λy hy=>h y<|aC _ hy
  ·simp only[hk,bR,if_false,pure_bind,clo];exact oF r _ λy hy=>h y<|aC _ hy
theorem tM{env:Env}{scope:Scope}(h:∀y∈scope.names,y.2=.free->∃c,env.cells.lookup y.1=some c):closureFor scope env=pure (clo env.cells scope.names []):=by simp only[closureFor];have e:=oF (env:=env) scope.names [] h;simp only[bind_pure] ;exact e
theorem yT(cells:List (Str×BF)):∀ (names:List (Str×NameKind)) (cs:List (Str×BF)) (x:Str) (c:BF),(clo cells names cs).lookup x=some c->cs.lookup x=some c\/((x,NameKind.free)∈names/\c=(cells.lookup x).getD 0)
 |[],cs,x,c,h=>.inl h
 |(n,k)::r,cs,x,c,h=>by
  rcases yT cells r _ x c h with q|⟨q1,q2⟩
  ·by_cases hk:(k==NameKind.free)=true
   ·rw[if_pos hk,dQ] at q;have ek:k=.free:=by simpa using hk
    by_cases hx:(x==n)=true
    ·simp only[hx] at q;have e:x=n:=by simpa using hx
     subst e;exact .inr ⟨by rw[ek];exact aE,(bY.inj q).symm⟩
    ·have hx':(x==n)=false:=by simpa using hx
     simp only[hx'] at q;exact .inl q
   ·rw[if_neg hk] at q;exact .inl q
  ·exact .inr ⟨aC _ q1,q2⟩
theorem aBJ(cells:List (Str×BF)):∀ (names:List (Str×NameKind)) (cs:List (Str×BF)) (x:Str),(x,NameKind.free)∈names\/(∃c,cs.lookup x=some c)->∃c,(clo cells names cs).lookup x=some c
 |[],cs,x,h=>h.elim (λz=>nomatch z) λz=>z
 |(n,k)::r,cs,x,h=>by
  refine aBJ cells r _ x ?_
  by_cases hk:(k==NameKind.free)=true
  ·rw[if_pos hk]
   by_cases hx:(x==n)=true
   ·exact .inr ⟨(cells.lookup n).getD 0,by rw[dQ];simp only[hx]⟩
   ·have hx':(x==n)=false:=by simpa using hx
    rcases h with q|⟨c,q⟩
    ·rcases aR.mp q with z|z
     ·cases z;exact absurd (by simp) hx
     ·exact .inl z
    ·exact .inr ⟨c,by rw[dQ];simp only[hx'];exact q⟩
  ·rw[if_neg hk]
   rcases h with q|q
   ·rcases aR.mp q with z|z
    ·cases z;exact absurd rfl hk
    ·exact .inl z
   ·exact .inr q
theorem pP{env:Env}:∀ {names:List (Str × NameKind)} {x:Str},((names.map fun (n,k)=>if (k==NameKind.free && env.scope.kind== .function && env.kindOf n==some .cell) then (n,NameKind.cell) else (n,k)).lookup x=some .cell∨
   (names.map λ(n,k)=>if(k==NameKind.free&&env.scope.kind==.function&&env.kindOf n==some .cell) then(n,NameKind.cell) else(n,k)).lookup x=some .free)->names.lookup x=some .cell\/names.lookup x=some .free
 |[],x,h=>by simp at h
 |(n,k)::r,x,h=>by
  have ih:= @pP env r x;rw[aV] at h;rw[dQ]
  by_cases hc:(k==NameKind.free&&env.scope.kind==.function&&env.kindOf n==some .cell)=true
  ·simp only[hc,if_true,dQ] at h;cases hx:x==n with
   |true=>
    have hk:k=.free:=by have:=hc;simp only[bG,beq_iff_eq] at this;exact this.1.1
    exact .inr (by rw[hk])
   |false=>simp only[hx] at h ⊢;exact ih h
  ·have hc':(k==NameKind.free&&env.scope.kind==.function&&env.kindOf n==some .cell)=false:=by simpa using hc
   simp only[hc',bR,if_false,dQ] at h;cases hx:x==n with
   |true=>simp only[hx] at h ⊢;exact h
   |false=>simp only[hx] at h ⊢;exact ih h
theorem aCs{prog:AF}{A:BG}{R:Result->BE->Prop}{elt target:Expr}{ifs:List Expr}{scope:Scope}{pos:Pos}{it acc:BD}{env:Env}(Ξ:BD->BE->Prop)(hΞ:∀e s,Ξ e s->notedBy (AH prog w) A env (λe s'=>R (.error e) s') e s)(J:Nat->BE->Prop)
  (turn:∀n s,J n s→AK (AH prog w) A (pyNext it) (fun r s₁=>match r with
   |none=>R (.ok .next) s₁
   | some v=>AK (AH prog w) A (letOwnedTupleGo target it v) (fun _ s₂=>AK (AH prog w) A (assign target env v) (fun _ s₃=>
     AK (AH prog w) A (forIn ifs true fun c r=>if r=true then do let ok ← isTrue c env (eval c env); pure (ForInStep.yield ok) else pure (ForInStep.yield r)) (fun ok s₄=>
      if ok=true then AK (AH prog w) A (eval elt env) (λx s₅=>AK (AH prog w) A (call (.builtin "list.append") [acc,x]) (λ_ s₆=>∃m,m<n/\J m s₆) Ξ s₅) Ξ s₄
      else ∃m,m<n/\J m s₄) Ξ s₃) Ξ s₂) Ξ s₁) Ξ s)
  (n:Nat) (h:J n s):codeAny (AH prog w) A (.compLoop (.ListComp elt [⟨target,iter,ifs,0⟩] scope pos) 0 it acc env) R s:=by
 refine codeAny_loop rfl J (λn s hI=> ?_) n h;show AK _ A ((compTurn (.ListComp elt [⟨target,iter,ifs,0⟩] scope pos) 0 it acc env).onRaise λx=>do noteFrame x env;theTreesLotGoes x) _ _ s;refine wpAny_noted ?_;rw[compTurn_list];refine AA<|wpAny_standAt (AA<|AW (turn n s hI) (λr s₁ h₁=> ?_) λe s z=>hΞ e s z);cases r with
 |none=>exact AB h₁
 |some v=>
  refine AA<|AW h₁ (λ_ s₂ h₂=> ?_) λe s z=>hΞ e s z;refine AA<|AW h₂ (λ_ s₃ h₃=> ?_) λe s z=>hΞ e s z;refine AA<|AW h₃ (λok s₄ h₄=> ?_) λe s z=>hΞ e s z;cases ok with
  |false=>exact AB ⟨rfl,h₄⟩
  |true=>exact AA (AA<|AW h₄ (λx s₅ h₅=>AA<|AW h₅ (λ_ s₆ h₆=>AB<|AB ⟨rfl,h₆⟩) λe s z=>hΞ e s z) λe s z=>hΞ e s z)
noncomputable def aKF(X:Cx)(ifs:List Expr):TT:=λσ H Q=>∀ (pins:List (BF×BI)) (s:BE),Inv X pins σ H s->
 AK (AH X.prog X.w) X.A (forIn ifs true λc r=>if r=true then do let ok <-isTrue c X.env (eval c X.env);pure (ForInStep.yield ok) else pure (ForInStep.yield r)) (TP X pins σ Q) X.xe s
theorem yY{Q:Bool->Hp->Prop}(h:Q true H):aKF X [] σ H Q:=λ_ _ I=>wpAny_tests_nil ⟨H,I,h⟩
theorem zA{c:Expr}{Q:Bool->Hp->Prop}(h:wT X c σ H Q):aKF X [c] σ H Q:=λpins s I=>wpAny_tests_one<|h pins s I
noncomputable def cxB(X:Cx)(N:List Str)(scope:Scope)(cl:List (Str×BF))(C:BF)(ex:List BF)(s:BE)(H:Hp):Cx:=
 {prog:=X.prog,w:=X.w,K:=X.K,mg:=X.mg,base:=X.base,A:=X.A,N:=N,s₀:=s,H₀:=H,env:=compEnvC scope cl C X.env,outer:=X.stack,stack:=X.stack,ex:=ex,fn:=λ_=>false,calm:=true,pn:=[],xe:=λ_ _=>False}
noncomputable def nX(X:Cx)(N:List Str)(scope:Scope)(cl:List (Str×BF))(C:BF)(ex:List BF)(s:BE)(H:Hp)(ξ:BD->BE->Prop):Cx:={cxB X N scope cl C ex s H with xe:=ξ}
noncomputable def uB(cap:List (Option Nat))(σ:St):St:=cap.map λo=>o.bind λk=>(σ[k]?).join
noncomputable def kW(scope sc:Scope):Bool:=scope.names.all λy=>(!(y.2==NameKind.free)||sc.names.lookup y.1==some NameKind.cell)&&!(y.2==NameKind.cell)&&(!(y.2==NameKind.local)||scope.names.lookup y.1==some NameKind.local)
noncomputable def jW(N M:List Str)(scope sc:Scope)(cap:List (Option Nat)):Bool:=cap.length==N.length&&(cap.zip N).all λy=>match y.1 with
 |none=>true
 |some k=>M[k]? ==some y.2&&sc.names.lookup y.2==some NameKind.cell&&scope.names.lookup y.2==some NameKind.free
theorem hG{env:Env}(hf:env.scope.kind=.function):∀ {names:List (Str×NameKind)}{x:Str},names.lookup x=some .free->env.kindOf x=some .cell->
  (names.map λ(n,k)=>if(k==NameKind.free&&env.scope.kind==.function&&env.kindOf n==some .cell) then(n,NameKind.cell) else(n,k)).lookup x=some .cell
 |[],x,h,_=>by simp at h
 |(n,k)::r,x,h,hc=>by
  rw[aV];cases hx:x==n with
  |true=>
   have e:x=n:=by simpa using hx
   subst e;rw[dQ] at h;simp only[beq_self_eq_true] at h;have ek:k=.free:=bY.inj h;subst ek;have hb:(NameKind.free==NameKind.free&&env.scope.kind==.function&&env.kindOf x==some .cell)=true:=by rw[hf,hc];rfl
   show List.lookup x ((if(NameKind.free==NameKind.free&&env.scope.kind==.function&&env.kindOf x==some .cell)=true then(x,NameKind.cell) else(x,NameKind.free))::_)=_;rw[if_pos hb,dQ];simp only[beq_self_eq_true]
  |false=>
   rw[dQ] at h;simp only[hx] at h;have ih:=hG hf (names:=r) h hc
   by_cases hb:(k==NameKind.free&&env.scope.kind==.function&&env.kindOf n==some .cell)=true
   ·simp only[hb,if_true,dQ,hx];exact ih
   ·have hb':(k==NameKind.free&&env.scope.kind==.function&&env.kindOf n==some .cell)=false:=by simpa using hb
    simp only[hb',bR,if_false,dQ,hx];exact ih
theorem Inv.low(I:Inv X pins σ H s):∀b∈frs X.stack,b<s.heap.objs.size:=λb hb=>by obtain⟨_,o,ho,_⟩:=I.stack.mem hb;exact aP ho
theorem aCA{elt:Expr}{ifs:List Expr}{scope:Scope}{pos:Pos}{N:List Str}{cap:List (Option Nat)}{g:TG}{tt:TT}{te:TE}{J:It}{fp:List BF}{it:BF}{tn:Nat->BH->Prop}{E:BD->BE->Prop}{sc:Scope}(ξ:List (Str×BF)->BF->BD->BE->Prop)(ξ':List (Str×BF)->BF->BD->Hp->BE->Prop)
  (hc:X.calm=true) (hsc:X.env.scope=sc) (hcn:kW scope sc=true) (hcap:jW N X.N scope sc cap=true) (hk:scope.kind=.function)
  (I:Inv X pins σ H s) (T:aFT X.prog X.w X.K tg J fp it tn) (st:tn 0 s.heap) (hfp:∀b∈fp,tT X pins H b)
  (hg:∀cl C,PG (nX X N scope cl C fp s H<|ξ cl C) tg g) (ht:∀cl C pi s2 σ2 H2 Q,Inv (nX X N scope cl C fp s H<|ξ cl C) pi σ2 H2 s2->tt σ2 H2 Q->AK (AH X.prog X.w) X.A (forIn ifs true λc r=>if r=true then do let ok <-isTrue c (compEnvC scope cl C X.env) (eval c<|compEnvC scope cl C X.env);pure (ForInStep.yield ok) else pure (ForInStep.yield r)) (TP (nX X N scope cl C fp s H<|ξ cl C) pi σ2 Q) (ξ cl C) s2)
  (he:∀cl C,PE (nX X N scope cl C fp s H<|ξ cl C) elt te) (W:Nat->Nat->List V->St->Hp->Prop) (m0:Nat) (w0:W 0 m0 [] (uB cap σ) H)
  (RR:BD->BF->Result->BE->Prop)
  (hξ:∀cl C e s',ξ cl C e s'->∃pi σb H',Inv (nX X N scope cl C fp s H<|ξ cl C) pi σb H' s'/\ξ' cl C e H' s')
  (hx:∀cl D C e H' s',ξ' cl C e H' s'->H' C=none->X.s₀.heap.objs.size<=C->C≠X.env.locals->(∀x c,X.env.cells.lookup x=some c->c≠C)->(∀p∈X.pn++pins,p.1≠C)->C∉frs X.stack->(∃m,s'.heap.Ns C m)->Inv X pins σ H' s'->notedBy (AH X.prog X.w) X.A (compEnvC scope cl C X.env) (λe s''=>RR (.ref D) C (.error e) s'') e s')
  (turn:∀i m ys σb H2,W i m ys σb H2→
   (J.stop i H2/\∀D C s',H2 D=none->H2 C=none->D≠C->X.s₀.heap.objs.size<=C->C≠X.env.locals->(∀x c,X.env.cells.lookup x=some c->c≠C)->(∀p∈X.pn++pins,p.1≠C)->C∉frs X.stack->(∃m,s'.heap.Ns C m)->Inv X pins σ (upd H2 D<|.lst ys) s'->RR (.ref D) C (.ok .next) s')\/
   (J.go i H2∧ys.length<AL∧∃Nx:List V→St→Hp→Prop,(∀ys' σ' H',Nx ys' σ' H'→∃m',m'<m∧W (i+1) m' ys' σ' H')∧
    ∀x H',J.yld i H2 x H'->g x σb H' λσ2 H3=>tt σ2 H3 λb H4=>if b=true then te σ2 H4 λv H5=>Nx (ys++[v]) σ2 H5 else Nx ys σ2 H4)):
  AK (AH X.prog X.w) X.A (newList []) (fun acc s₃=>AK (AH X.prog X.w) X.A (newFunctionEnv scope X.env.globals (clo X.env.cells scope.names []) [] X.env.qual none .none (some X.env)) (fun cenv s₄=>
   codeAny (AH X.prog X.w) X.A (.compStart (.ListComp elt [⟨tg,iter,ifs,0⟩] scope pos) 0 (.ref it) acc {cenv with scope:=relabel scope X.env}) (RR acc cenv.locals) s₄) E s₃) E s:=by
 have nm:∀y∈scope.names,(y.2=NameKind.free->sc.names.lookup y.1=some NameKind.cell)/\y.2≠NameKind.cell/\(y.2=NameKind.local->scope.names.lookup y.1=some NameKind.local):=λy hy=>by have q:=gC.mp hcn y hy;simp only[bG,mY,lD,beq_eq_false_iff_ne,ne_eq,beq_iff_eq] at q;exact⟨λe=>q.1.1.resolve_left λz=>z e,q.1.2,λe=>q.2.resolve_left λz=>z e⟩
 have fre:∀y∈scope.names,y.2=.free->∃c,X.env.cells.lookup y.1=some c:=λy hy e=>I.ok.has y.1 (.inl<|by show X.env.scope.names.lookup y.1=_;rw[hsc];exact(nm y hy).1 e)
 generalize hcl:clo X.env.cells scope.names []=cl
 have csub:∀x c,cl.lookup x=some c->X.env.cells.lookup x=some c:=λx c e=>by
  rw[<-hcl] at e
  rcases yT _ _ _ _ _ e with z|⟨z1,z2⟩
  ·simp at z
  ·obtain⟨c',q⟩:=fre _ z1 rfl;rw[q] at z2;rw[q,z2];rfl
 have chas:∀x,((relabel scope X.env).names.lookup x=some .cell\/(relabel scope X.env).names.lookup x=some .free)->∃c,cl.lookup x=some c:=λx e=>by
  rcases pP e with z|z
  ·exact absurd rfl (nm _<|PySem.mem_of_lookup z).2.1
  ·rw[<-hcl];exact aBJ _ _ _ _ (.inl<|PySem.mem_of_lookup z)
 have cexi:∀x c,cl.lookup x=some c->c<s.heap.objs.size:=λx c e=>by obtain⟨v,o,ho,_⟩:=I.cell x c<|csub x c e;exact aP ho
 have cexX:∀x c,X.env.cells.lookup x=some c->c<s.heap.objs.size:=λx c e=>by obtain⟨v,o,ho,_⟩:=I.cell x c e;exact aP ho
 have pexX:∀p∈X.pn++pins,p.1<s.heap.objs.size:=λp hp=>aP (I.pin p hp).1
 have flow:∀b∈fp,b<s.heap.objs.size:=λb hb=>by obtain⟨o,ho,_⟩:=T.obj 0 _ st b hb;exact aP ho
 have fstk:∀b∈fp,b∉frs X.stack:=λb hb z=>by
  obtain⟨_,f1,f2,_⟩:=hfp b hb
  rcases aR.mp (I.stkSub b z) with q|q
  ·exact f1 q
  ·exact f2 q
 have hkr:(relabel scope X.env).kind=.function:=hk;refine AT<|wpAny_newFunctionEnv (λy hy=>(nm y hy).2.1) (by intro y hy;simp at hy) (λh₁ hns₁ hsb₁=> ?_) hk;dsimp only at hns₁ hsb₁ ⊢;generalize hH2:s.heap.push {cls:=.type "list",dict:=none,data:=.seq ([]:List BD).toArray}=G2 at hns₁ hsb₁ ⊢;have hC:G2.objs.size=s.heap.objs.size+1:=by rw[<-hH2,wK]
 have hDC:s.heap.objs.size≠G2.objs.size:=by rw[hC];exact bN<|mF _
 have hCle:s.heap.objs.size<=G2.objs.size:=by rw[hC];exact hX _
 have neC:∀b,b<s.heap.objs.size->b≠G2.objs.size:=λb hb=>by rw[hC];exact bN<|rO hb
 have old:∀b o,s.heap.get? b=some o->h₁.get? b=some o:=λb o e=>hsb₁.extBut b o (neC b<|aP e) (aJ _<|hH2▸aJ _ e)
 have hacc:h₁.get? s.heap.objs.size=some {cls:=.type "list",dict:=none,data:=.seq ([]:List BD).toArray}:=hsb₁.extBut _ _ hDC (aJ _<|hH2▸bO _ rfl);have env_eq:({newEnv scope G2.objs.size X.env.globals cl X.env.qual none .none (some X.env) 0 with scope:=relabel scope X.env}:Env)=compEnvC scope cl G2.objs.size X.env:=rfl;generalize hDD:s.heap.objs.size=D at *;generalize hCC:G2.objs.size=C at *
 have okX:(nX X N scope cl C fp s H<|ξ cl C).Ok:=by
  refine⟨I.mod,hkr,I.ok.glob,I.ok.blt, ?_,λx y c a b=>I.ok.inj x y c (csub x c a)<|csub y c b,chas,(λx c z=>nomatch z),λ_=>I.ok.hd hc,I.ok.frames,.inl rfl,λb hb=>⟨neC b<|flow b hb,λx c e=>(hfp b hb).2.2.2.2.1 x c<|csub x c e⟩,I.bs, ?_,λb o e hb=> ?_,fstk,I.stack,I.stkFree⟩
  ·show s.heap.objs.size<=C;rw[hDD];exact hCle
  ·exact cC I.ok.bsz I.sz
  ·rcases(hfp b hb).2.2.2.1 with z|z
   ·exact I.ok.noex b o e z
   ·exact absurd (aQ (aP e)<|cC I.ok.bsz z)<|eE _
 have capE:∀ (i:Nat) (x:Str) (v:V),N[i]? =some x->(uB cap σ)[i]? =some (some v)->∃k:Nat,X.N[k]? =some x/\σ[k]? =some (some v)/\sc.names.lookup x=some .cell/\scope.names.lookup x=some .free:=λi x v e1 e2=>by
  unfold jW at hcap;rw[bG] at hcap;unfold uB at e2;rw[bB] at e2;cases q:cap[i]? with
  |none=>rw[q] at e2;cases e2
  |some o=>
   rw[q] at e2;have e2:(o.bind λk=>(σ[k]?).join)=some v:=bY.inj e2;cases o with
   |none=>cases e2
   |some k=>
    have e2:(σ[k]?).join=some v:=e2
    have mz:(some k,x)∈cap.zip N:=by refine aN (i:=i) ?_;rw[kR];exact⟨q,e1⟩
    have z:=gC.mp hcap.2 _ mz;simp only[bG,beq_iff_eq] at z;refine⟨k,z.1.1, ?_,z.1.2,z.2⟩;cases w:σ[k]? with
    |none=>rw[w] at e2;cases e2
    |some o'=>rw[w] at e2;have e2:o'=some v:=e2;rw[e2]
 have I0:Inv (nX X N scope cl C fp s H<|ξ cl C) [(D,{cls:=.type "list",dict:=none,data:=.seq ([]:List BD).toArray})] (uB cap σ) H {s with heap:=h₁,toks:=s.toks+([]:List (Str×BD)).length}:=by
  have dfree:H D=none:=I.hok.fresh<|aDm hDD;refine⟨okX,rfl,I.bare,Un.kept old,⟨_,hns₁,λi x v e1 e2 e3=> ?_⟩,λx c e=> ?_,I.hok.fresh (by rw[hDD];exact hCle),λx c e=>I.freeC x c<|csub x c e,λp hp=> ?_,I.hok.kept old, ?_⟩
  ·obtain⟨k,q1,q2,q3,q4⟩:=capE i x v e1 e2;have q3':X.env.scope.names.lookup x=some .cell:=by rw[hsc];exact q3
   obtain⟨m,_,hl⟩:=I.loc;obtain⟨u,ru,lk⟩:=hl k x v q1 q2 (.inr<|.inl q3');refine⟨u,ru,.inr ⟨.inl<|hG I.ok.kind q4 q3', ?_⟩⟩
   rcases lk with⟨z,_⟩|⟨_,c,z,ic⟩
   ·have z':X.env.scope.names.lookup x=some .local:=z;rw[q3'] at z';cases z'
   ·obtain⟨c',hc'⟩:=chas x (.inl<|hG I.ok.kind q4 q3');have:=csub x c' hc';rw[z] at this;have ec:c=c':=bY.inj this;subst ec;obtain⟨o,ho,hd⟩:=ic;exact⟨c,hc',o,old c o ho,hd⟩
  ·obtain⟨v,o,ho,hd⟩:=I.cell x c<|csub x c e;exact⟨v,o,old c o ho,hd⟩
  ·have hp':p=(D,{cls:=.type "list",dict:=none,data:=.seq ([]:List BD).toArray}):=by simpa[nX,cxB] using hp
   subst hp';refine⟨hacc,dfree,hDC,λz=> ?_,λv z=>by cases z⟩;have:=I.low D z;rw[hDD] at this;exact eE _ this
  ·show(uB cap σ).length=N.length;unfold jW at hcap;rw[bG] at hcap;unfold uB;rw[aB];simpa using hcap.1
 have dlow:∀b,b<D->b≠D:=λb hb=>bN hb
 have loop:∀s₃:BE,s₃={s with heap:=h₁,toks:=s.toks+([]:List (Str×BD)).length}->
   codeAny (AH X.prog X.w) X.A (.compLoop (.ListComp elt [⟨tg,iter,ifs,0⟩] scope pos) 0 (.ref it) (.ref D)<|compEnvC scope cl C X.env) (RR (.ref D) C) s₃:=by
  rintro s₃ rfl
  refine aCs (ξ cl C) (λe s' z=> ?_) (λn s'=>∃ (i:Nat) (ys:List V) (σb:St) (H2:Hp) (its:List BD) (nn:Nat),Inv (nX X N scope cl C fp s H<|ξ cl C) [(D,{cls:=.type "list",dict:=none,data:=.seq its.toArray nn})] σb H2 s'/\tn i s'.heap/\(∀b∈fp,H2 b=none)/\Vals ys its/\ys.length<=AL/\W i n ys σb H2) ?_ m0
   ⟨0,[],uB cap σ,H,[],0,I0,T.keep 0 _ _ st λb hb o e=>old b o e,λb hb=>(hfp b hb).1,.nil,bJ _,w0⟩
  ·obtain⟨pi,σb,H',I',z'⟩:=hξ cl C e s' z;obtain⟨m4,ns4,_⟩:=id I'.loc;have J0:Inv X pins σ H' s':=I.call' (ch:=fp) I'.os I'.base I'.hok I'.bare λb hb=>⟨(hfp b hb).2.2.2.1,(hfp b hb).2.1,(hfp b hb).2.2.2.2.1,(hfp b hb).2.2.2.2.2⟩
   have hLD:X.env.locals<D:=by rw[<-hDD];exact I.lt
   exact hx cl D C e H' s' z' I'.free (cC I.sz<|by rw[hDD];exact hCle) (jB<|aQ hLD hCle) (λx c e=>neC c<|cexX x c e) (λp hp=>neC _<|pexX p hp) (λz=>absurd (I.low C z)<|by rw[hDD];exact mV.mpr hCle) ⟨m4,ns4⟩ J0
  rintro n s3 ⟨i,ys,σ3,H3,its,nn,I3,st3,fr3,rv3,hlen,w3⟩
  have fpX:∀ {H':Hp}{its':List BD}{nn':Nat},(∀b∈fp,H' b=none)->∀b∈fp,tT (nX X N scope cl C fp s H<|ξ cl C) [(D,{cls:=.type "list",dict:=none,data:=.seq its'.toArray nn'})] H' b:=λ{H' its' nn'} hn b hb=>by
   refine⟨hn b hb,neC b<|flow b hb,fstk b hb,.inl hb,λx c e=>(hfp b hb).2.2.2.2.1 x c<|csub x c e,λp hp=> ?_⟩
   have hp':p.1=D:=by have q:p∈([]:List (BF×BI))++[(D,{cls:=.type "list",dict:=none,data:=.seq its'.toArray nn'})]:=hp;rw[uV,aD] at q;rw[q]
   rw[hp'];exact Ne.symm (dlow b<|flow b hb)
  rcases turn i n ys σ3 H3 w3 with⟨stop,fin⟩|⟨go,hsz,Nx,hN,step⟩
  ·refine thn (T.done (nX X N scope cl C fp s H<|ξ cl C) rfl rfl rfl rfl i _ s3 σ3 H3 (ξ cl C) I3 (fpX fr3) st3 stop) λr s4 ⟨hr,I4⟩=> ?_
   subst hr;obtain⟨m4,ns4,_⟩:=id I4.loc;have J0:Inv X pins σ H3 s4:=I.call' (ch:=fp) I4.os I4.base I4.hok I4.bare λb hb=>⟨(hfp b hb).2.2.2.1,(hfp b hb).2.1,(hfp b hb).2.2.2.2.1,(hfp b hb).2.2.2.2.2⟩
   obtain⟨pd,pn,_⟩:=I4.pin (D,_)<|aH _ aE;have hLD:X.env.locals<D:=by rw[<-hDD];exact I.lt
   refine fin D C s4 pn I4.free hDC (cC I.sz<|by rw[hDD];exact hCle) (jB<|aQ hLD hCle) (λx c e=>neC c<|cexX x c e) (λp hp=>neC _<|pexX p hp) (λz=>absurd (I.low C z)<|by rw[hDD];exact mV.mpr hCle) ⟨m4,ns4⟩ ?_;refine J0.track pn (by rw[<-hDD];exact I.sz) (jB hLD) (λx c e=>dlow c<|cexX x c e) (λp hp=>dlow _<|pexX p hp) ?_;exact⟨hlen,its,nn,rv3,pd⟩
  ·refine thn (T.item (nX X N scope cl C fp s H<|ξ cl C) rfl rfl rfl rfl i _ s3 σ3 H3 (ξ cl C) I3 (fpX fr3) st3 go) λr s4 ⟨u,hr,h4⟩=> ?_
   subst hr;refine thn h4 λ_ s5 ⟨x,H5,I5,r5,y5,st5,fr5⟩=> ?_
   have I5':=I5.pinned (fpX fr5)<|T.obj _ _ st5;refine thn (hg cl C _ s5 σ3 H5 x u _ I5' r5<|step x H5 y5) λ_ s6 ⟨σ6,H6,I6,q6⟩=> ?_
   refine thn (ht cl C _ s6 σ6 H6 _ I6 q6) λb s7 ⟨H7,I7,q7⟩=> ?_
   have tnK:∀ {σ7:St}{H7:Hp}{s7:BE},Inv (nX X N scope cl C fp s H<|ξ cl C) ([(D,{cls:=.type "list",dict:=none,data:=.seq its.toArray nn})]++lW fp s5.heap) σ7 H7 s7->tn (i+1) s7.heap/\∀b∈fp,H7 b=none:=λ{σ7 H7 s7} I7=>by refine⟨T.keep _ _ _ st5 λb hb o e=>(I7.pin (b,o)<|aH _ (aH _<|iI hb e)).1,λb hb=> ?_⟩;obtain⟨o,e,d⟩:=T.obj _ _ st5 b hb;exact(I7.pin (b,o)<|aH _ (aH _<|iI hb e)).2.1
   cases b with
   |false=>have q7':Nx ys σ6 H7:=q7;obtain⟨m',hm,w7⟩:=hN _ _ _ q7';obtain⟨t7,f7⟩:=tnK I7;exact⟨m',hm,i+1,ys,σ6,H7,its,nn,I7.unpinned,t7,f7,rv3,hlen,w7⟩
   |true=>
    have q7':te σ6 H7 λv H5=>Nx (ys++[v]) σ6 H5:=q7
    refine thn (he cl C _ s7 σ6 H7 _ I7 q7') λy s8 ⟨v,H8,I8,r8,q8⟩=> ?_
    obtain⟨m',hm,w8⟩:=hN _ _ _ q8;obtain⟨pd,pn,pL,pf,pc⟩:=I8.pin (D,{cls:=.type "list",dict:=none,data:=.seq its.toArray nn}) (aH _<|aS _ aE);have hits:its.length=ys.length:=rv3.length.symm;refine wpAny_list_append_plain (items:=its.toArray) ⟨nn,pd⟩ (λh9 pl9 sb9=> ?_) (by rw[bC,hits];exact dC hsz);obtain⟨n9,e9⟩:=pl9
    have e9':h9.get? D=some {cls:=.type "list",dict:=none,data:=.seq (its++[y]).toArray n9}:=by rw[e9];simp
    have I8':Inv (nX X N scope cl C fp s H<|ξ cl C) (lW fp s5.heap) σ6 H8 s8:=I8.pins_of λp hp=>I8.pin p (aH _<|aH _ hp)
    have I9:Inv (nX X N scope cl C fp s H<|ξ cl C) (lW fp s5.heap) σ6 H8 {s8 with heap:=h9,toks:=s8.toks}:=I8'.turned (it:=D) (λb o hb e=>sb9.extBut b o hb e) pn hDC (.inr<|by rw[<-hDD];exact aO _) (λx c e=>dlow c<|cexi x c e) λp hp=>by
     have hp':p∈lW fp s5.heap:=by simpa[nX,cxB] using hp
     exact dlow _<|flow _ (qQ hp').1
    have tn9:tn (i+1) h9:=T.keep _ _ _ st5 λb hb o e=>(I9.pin (b,o) (aH _<|iI hb e)).1
    have fr9:∀b∈fp,H8 b=none:=λb hb=>by obtain⟨o,e,d⟩:=T.obj _ _ st5 b hb;exact(I9.pin (b,o) (aH _<|iI hb e)).2.1
    refine⟨m',hm,i+1,ys++[v],σ6,H8,its++[y],n9,I9.pins_of λp hp=> ?_,tn9,fr9,Vals.append rv3<|.cons r8 .nil,by rw[aM];exact hsz,w8⟩;have hp':p=(D,{cls:=.type "list",dict:=none,data:=.seq (its++[y]).toArray n9}):=aD.mp hp;subst hp';exact⟨e9',pn,pL,pf,λv z=>by cases z⟩
 exact codeAny_compStart_list (loop _ rfl) (T.self _ 0 _ _ _ (T.keep 0 _ _ st λb hb o e=>old b o e)<|loop _ rfl)
theorem zN{elt:Expr}{ifs:List Expr}{scope:Scope}{pos:Pos}{N:List Str}{cap:List (Option Nat)}{g:TG}{tt:TT}{te:TE}{J:It}{fp:List BF}{it:BF}{tn:Nat->BH->Prop}{E:BD->BE->Prop}{sc:Scope}
  (hc:X.calm=true) (hsc:X.env.scope=sc) (hcn:kW scope sc=true) (hcap:jW N X.N scope sc cap=true) (hk:scope.kind=.function)
  (I:Inv X pins σ H s) (T:aFT X.prog X.w X.K tg J fp it tn) (st:tn 0 s.heap) (hfp:∀b∈fp,tT X pins H b)
  (hg:∀cl C,PG (cxB X N scope cl C fp s H) tg g) (ht:∀cl C pi s2 σ2 H2 Q,Inv (cxB X N scope cl C fp s H) pi σ2 H2 s2->tt σ2 H2 Q->AK (AH X.prog X.w) X.A (forIn ifs true λc r=>if r=true then do let ok <-isTrue c (compEnvC scope cl C X.env) (eval c<|compEnvC scope cl C X.env);pure (ForInStep.yield ok) else pure (ForInStep.yield r)) (TP (cxB X N scope cl C fp s H) pi σ2 Q) (λ_ _=>False) s2)
  (he:∀cl C,PE (cxB X N scope cl C fp s H) elt te) (W:Nat->Nat->List V->St->Hp->Prop) (m0:Nat) (w0:W 0 m0 [] (uB cap σ) H)
  (RR:BD->BF->Result->BE->Prop)
  (turn:∀i m ys σb H2,W i m ys σb H2→
   (J.stop i H2/\∀D C s',H2 D=none->H2 C=none->D≠C->X.s₀.heap.objs.size<=C->C≠X.env.locals->(∀x c,X.env.cells.lookup x=some c->c≠C)->(∀p∈X.pn++pins,p.1≠C)->C∉frs X.stack->(∃m,s'.heap.Ns C m)->Inv X pins σ (upd H2 D<|.lst ys) s'->RR (.ref D) C (.ok .next) s')\/
   (J.go i H2∧ys.length<AL∧∃Nx:List V→St→Hp→Prop,(∀ys' σ' H',Nx ys' σ' H'→∃m',m'<m∧W (i+1) m' ys' σ' H')∧
    ∀x H',J.yld i H2 x H'->g x σb H' λσ2 H3=>tt σ2 H3 λb H4=>if b=true then te σ2 H4 λv H5=>Nx (ys++[v]) σ2 H5 else Nx ys σ2 H4)):
  AK (AH X.prog X.w) X.A (newList []) (fun acc s₃=>AK (AH X.prog X.w) X.A (newFunctionEnv scope X.env.globals (clo X.env.cells scope.names []) [] X.env.qual none .none (some X.env)) (fun cenv s₄=>
   codeAny (AH X.prog X.w) X.A (.compStart (.ListComp elt [⟨tg,iter,ifs,0⟩] scope pos) 0 (.ref it) acc {cenv with scope:=relabel scope X.env}) (RR acc cenv.locals) s₄) E s₃) E s:=
 aCA (λ_ _ _ _=>False) (λ_ _ _ _ _=>False) hc hsc hcn hcap hk I T st hfp hg ht he W m0 w0 RR (λ_ _ _ _ z=>z.elim) (λ_ _ _ _ _ _ z=>z.elim) turn
end L2
namespace DL
open PySem PySem.Spec PyProof.Rows L2
noncomputable abbrev St:=L2.St
inductive D where
 |non|bl (b:Bool)|int (i:Int)|str (x:Str)|tup (ds:List D)|lst (ds:List D)|dic|scr (ns:List Int)|dki (ks:List Key) (ds:List D)|any (G:V->Hp->Prop)
mutual
noncomputable def Rep(K:aA)(H:Hp):D->V->Prop
 |.non,v=>v=.non
 |.bl b,v=>v=.bl b
 |.int i,v=>v=.int i
 |.str x,v=>v=.str x
 |.tup ds,v=>∃a xs,v=.ref a/\H a=some (.tup xs)/\RepL K H ds xs
 |.lst ds,v=>∃a xs,v=.ref a/\H a=some (.lst xs)/\RepL K H ds xs
 |.dic,v=>∃a,v=.ref a/\H a=some (.dK [])
 |.dki ks ds,v=>∃a xs,v=.ref a/\(∃ob,H a=some (.frz ob (.dK<|ks.zip xs)))/\ks.length=ds.length/\RepL K H ds xs
 |.scr ns,v=>∃a,v=.ref a/\SqL K H a (ns.map V.int)
 |.any G,v=>(∃a,v=.ref a)/\∀H',Same H H'->G v H'
noncomputable def RepL(K:aA)(H:Hp):List D->List V->Prop
 |[],xs=>xs=[]
 |d::ds,xs=>∃y ys,xs=y::ys/\Rep K H d y/\RepL K H ds ys
end
mutual
theorem Rep.mono{K:aA}{H H':Hp}(h:Same H H'):∀ {d:D}{v:V},Rep K H d v->Rep K H' d v
 |.non,_,r=>by simpa only[Rep] using r
 |.bl _,_,r=>by simpa only[Rep] using r
 |.int _,_,r=>by simpa only[Rep] using r
 |.str _,_,r=>by simpa only[Rep] using r
 |.tup ds,v,r=>by simp only[Rep] at r ⊢;obtain⟨a,xs,e,q,rl⟩:=r;exact⟨a,xs,e,h _ _ q,RepL.mono h rl⟩
 |.lst ds,v,r=>by simp only[Rep] at r ⊢;obtain⟨a,xs,e,q,rl⟩:=r;exact⟨a,xs,e,h _ _ q,RepL.mono h rl⟩
 |.dki ks ds,v,r=>by simp only[Rep] at r ⊢;obtain⟨a,xs,e,⟨ob,q⟩,l,rl⟩:=r;exact⟨a,xs,e,⟨ob,h _ _ q⟩,l,RepL.mono h rl⟩
 |.dic,v,r=>by simp only[Rep] at r ⊢;obtain⟨a,e,q⟩:=r;exact⟨a,e,h _ _ q⟩
 |.any G,v,r=>by simp only[Rep] at r ⊢;exact⟨r.1,λH2 s=>r.2 H2<|h.trans s⟩
 |.scr ns,v,r=>by simp only[Rep] at r ⊢;obtain⟨a,e,q⟩:=r;exact⟨a,e,h.seq q⟩
theorem RepL.mono{K:aA}{H H':Hp}(h:Same H H'):∀ {ds:List D}{xs:List V},RepL K H ds xs->RepL K H' ds xs
 |[],_,r=>by simpa only[RepL] using r
 |d::ds,xs,r=>by simp only[RepL] at r ⊢;obtain⟨y,ys,e,q,rl⟩:=r;exact⟨y,ys,e,Rep.mono h q,RepL.mono h rl⟩
end
theorem RepL.len{K:aA}{H:Hp}:∀ {ds:List D}{xs:List V},RepL K H ds xs->xs.length=ds.length
 |[],_,r=>by simp only[RepL] at r;rw[r];rfl
 |d::ds,xs,r=>by simp only[RepL] at r;obtain⟨y,ys,rfl,_,q⟩:=r;simp only[bL,RepL.len q]
theorem RepL.get{K:aA}{H:Hp}:∀ {ds:List D}{xs:List V}{i:Nat}{d:D},RepL K H ds xs->ds[i]? =some d->∃v,xs[i]? =some v/\Rep K H d v
 |[],_,i,d,r,e=>by simp at e
 |d'::ds,xs,i,d,r,e=>by
  simp only[RepL] at r;obtain⟨y,ys,rfl,q,rl⟩:=r;cases i with
  |zero=>simp at e;subst e;exact⟨y,rfl,q⟩
  |succ i=>
   have e':ds[i]? =some d:=by simpa using e
   obtain⟨v,h1,h2⟩:=RepL.get rl e';exact⟨v,by simpa using h1,h2⟩
theorem RepL.app{K:aA}{H:Hp}:∀ {ds es:List D}{xs ys:List V},RepL K H ds xs->RepL K H es ys->RepL K H (ds++es) (xs++ys)
 |[],es,xs,ys,r,q=>by simp only[RepL] at r;subst r;exact q
 |d::ds,es,xs,ys,r,q=>by simp only[RepL] at r;obtain⟨y,zs,rfl,a,rl⟩:=r;show RepL K H (d::(ds++es)) (y::(zs++ys));simp only[RepL];exact⟨y,_,rfl,a,RepL.app rl q⟩
theorem RepL.nil{K:aA}{H:Hp}:RepL K H [] []:=by simp only[RepL]
theorem RepL.cons{K:aA}{H:Hp}{d:D}{ds:List D}{x:V}{xs:List V}(a:Rep K H d x)(b:RepL K H ds xs):RepL K H (d::ds) (x::xs):=by simp only[RepL];exact⟨x,xs,rfl,a,b⟩
theorem RepL.one{K:aA}{H:Hp}{d:D}{x:V}(a:Rep K H d x):RepL K H [d] [x]:=.cons a .nil
theorem RepL.uncons{K:aA}{H:Hp}{d:D}{ds:List D}{xs:List V}(r:RepL K H (d::ds) xs):∃y ys,xs=y::ys/\Rep K H d y/\RepL K H ds ys:=by simpa only[RepL] using r
theorem RepL.take{K:aA}{H:Hp}:∀ {ds:List D}{xs:List V} (n:Nat),RepL K H ds xs->RepL K H (ds.take n) (xs.take n)
 |_,_,0,_=>by simp only[aKt];exact .nil
 |[],xs,n+1,r=>by simp only[RepL] at r;subst r;exact .nil
 |d::ds,xs,n+1,r=>by obtain⟨y,ys,rfl,a,rl⟩:=r.uncons;simp only[aDr];exact .cons a<|RepL.take n rl
theorem RepL.drop{K:aA}{H:Hp}:∀ {ds:List D}{xs:List V} (n:Nat),RepL K H ds xs->RepL K H (ds.drop n) (xs.drop n)
 |_,_,0,r=>by simpa only[List.drop_zero] using r
 |[],xs,n+1,r=>by simp only[RepL] at r;subst r;exact .nil
 |d::ds,xs,n+1,r=>by obtain⟨y,ys,rfl,a,rl⟩:=r.uncons;simp only[List.drop_succ_cons];exact RepL.drop n rl
theorem RepL.ints{K:aA}{H:Hp}:∀ {ns:List Int}{xs:List V},RepL K H (ns.map D.int) xs->xs=ns.map V.int
 |[],xs,r=>by simpa only[dJ,RepL] using r
 |n::ns,xs,r=>by rw[aV] at r;obtain⟨y,ys,rfl,a,rl⟩:=r.uncons;simp only[Rep] at a;rw[a,RepL.ints rl];rfl
inductive Slot where
 |un|val (d:D)|own (l:BF) (ds:List D)|gh (d:D) (G:V->Hp->Prop)|od (l:BF) (ks:List Key) (ds:List D)|ox (ls:List BF) (G:V->Hp->Hp->Prop)
noncomputable def Wr(l:BF):HO->Prop
 |.lst _=>True
 |.dK _=>True
 |.ext φ=>∃o:BI,φ=(λh=>h.get? l=some o)/\∀v,o.data≠ .cell v
 |_=>False
noncomputable def fY(K:aA)(F H:Hp):Slot->Option V->Prop
 |.un,_=>True
 |.val d,o=>∃v,o=some v/\Rep K F d v
 |.own l ds,o=>o=some (.ref l)/\F l=none/\∃xs,H l=some (.lst xs)/\RepL K F ds xs
 |.od l ks ds,o=>o=some (.ref l)/\F l=none/\∃xs,H l=some (.dK<|ks.zip xs)/\ks.length=ds.length/\RepL K F ds xs
 |.gh d G,o=>∃v,o=some v/\Rep K F d v/\∀F',Same F F'->G v F'
 |.ox ls G,o=>∃v,o=some v/\(∀l∈ls,F l=none/\∃ob,H l=some ob/\Wr l ob)/\∀F' H',Same F F'->(∀l∈ls,∀ob,H l=some ob->H' l=some ob)->G v F' H'
noncomputable def SlotsOk(K:aA)(F H:Hp):List Slot->St->Prop
 |[],σ=>σ=[]
 |z::zs,σ=>∃o r,σ=o::r/\fY K F H z o/\SlotsOk K F H zs r
noncomputable def fU:Slot->List BF
 |.own l _=>[l]
 |.od l _ _=>[l]
 |.ox ls _=>ls
 |_=>[]
noncomputable def bV(sd:List Slot):List BF:=sd.flatMap fU
theorem oA(z:Slot)(zs:List Slot):bV (z::zs)=fU z++bV zs:=rfl
structure StF(K:aA)(H₀ F H:Hp)(σ:St)(sd:List Slot):Prop where
 base:Same H₀ F
 sub:Same F H
 smp:Smp H
 slots:SlotsOk K F H sd σ
 nd:(bV sd).Nodup
variable {K:aA}{H₀ F F' H H':Hp}{σ:St}{sd:List Slot}
theorem SlotsOk.get:∀ {sd:List Slot}{σ:St}{i:Nat}{z:Slot},SlotsOk K F H sd σ->sd[i]? =some z->∃o,σ[i]? =some o/\fY K F H z o
 |[],_,_,_,_,e=>by simp at e
 |z'::zs,σ,i,z,h,e=>by
  obtain⟨o,r,rfl,a,b⟩:=h;cases i with
  |zero=>simp at e;subst e;exact⟨o,rfl,a⟩
  |succ i=>obtain⟨o',h1,h2⟩:=SlotsOk.get (i:=i) b (by simpa using e);exact⟨o',by simpa using h1,h2⟩
theorem SlotsOk.set{z:Slot}{o:Option V}(q:fY K F H z o):∀ {sd:List Slot}{σ:St} (i:Nat),SlotsOk K F H sd σ->SlotsOk K F H (sd.set i z) (σ.set i o)
 |[],_,_,h=>by have h:_=_:=h;subst h;rfl
 |z'::zs,σ,i,h=>by
  obtain⟨o',r,rfl,a,b⟩:=h;cases i with
  |zero=>exact⟨o,r,rfl,q,b⟩
  |succ i=>exact⟨o',_,rfl,a,SlotsOk.set q i b⟩
theorem SlotsOk.mono(hF:Same F F'):∀ {sd:List Slot}{σ:St},(∀l∈bV sd,F' l=none/\∀xs,H l=some xs->H' l=some xs)->SlotsOk K F H sd σ->SlotsOk K F' H' sd σ
 |[],_,_,h=>h
 |z::zs,σ,ho,h=>by
  obtain⟨o,r,rfl,a,b⟩:=h;refine⟨o,r,rfl, ?_,SlotsOk.mono hF (λl hl=>ho l ?_) b⟩
  ·cases z with
   |un=>trivial
   |val d=>obtain⟨v,e,q⟩:=a;exact⟨v,e,q.mono hF⟩
   |gh d G=>obtain⟨v,e,q,g⟩:=a;exact⟨v,e,q.mono hF,λF2 s2=>g F2<|hF.trans s2⟩
   |own l ds=>obtain⟨e,n,xs,q,rl⟩:=a;have:=ho l (by simp[oA,fU]);exact⟨e,this.1,xs,this.2 _ q,rl.mono hF⟩
   |od l ks ds=>obtain⟨e,n,xs,q,ln,rl⟩:=a;have:=ho l (by simp[oA,fU]);exact⟨e,this.1,xs,this.2 _ q,ln,rl.mono hF⟩
   |ox ls G=>
    obtain⟨v,e,h,g⟩:=a;have ho':∀l∈ls,F' l=none/\∀xs,H l=some xs->H' l=some xs:=λl hl=>ho l<|aS _ hl
    exact⟨v,e,λl hl=>⟨(ho' l hl).1,let ⟨ob,q,w⟩:=(h l hl).2;⟨ob,(ho' l hl).2 _ q,w⟩⟩,λF2 H2 s2 k=>g F2 H2 (hF.trans s2) λl hl ob q=>k l hl ob<|(ho' l hl).2 _ q⟩
  ·exact aH _ hl
theorem SlotsOk.owns:∀ {sd:List Slot}{σ:St}{l:BF},SlotsOk K F H sd σ->l∈bV sd->F l=none/\∃ob,H l=some ob/\Wr l ob
 |[],_,_,_,e=>by simp[bV] at e
 |z::zs,σ,l,h,e=>by
  obtain⟨o,r,rfl,a,b⟩:=h
  rcases aK.mp (show l∈fU z++bV zs from e) with e|e
  ·cases z with
   |un=>cases e
   |val d=>cases e
   |gh d G=>cases e
   |own l' ds=>rw[aD.mp e];obtain⟨_,n,xs,q,_⟩:=a;exact⟨n,_,q,trivial⟩
   |od l' ks ds=>rw[aD.mp e];obtain⟨_,n,xs,q,_⟩:=a;exact⟨n,_,q,trivial⟩
   |ox ls G=>obtain⟨v,_,h,_⟩:=a;exact h l e
  ·exact SlotsOk.owns b e
theorem StF.lay{p:BF}{o:HO}(S:StF K H₀ F H σ sd)(hp:H p=none)(ho:aKB o):StF K H₀ (upd F p o) (upd H p o) σ sd/\Same F (upd F p o):=by
 have fp:F p=none:=S.sub.free hp;have s1:Same F (upd F p o):=λb u e=>by rw[bD<|bX e fp];exact e
 refine⟨⟨λb u e=>s1 _ _<|S.base _ _ e,λb u e=> ?_,λb u e=> ?_,S.slots.mono s1 λl hl=> ?_,S.nd⟩,s1⟩
 ·by_cases h:b=p
  ·subst h;rw[bM] at e ⊢;exact e
  ·rw[bD h] at e ⊢;exact S.sub _ _ e
 ·by_cases h:b=p
  ·subst h;rw[bM] at e;cases e;exact ho
  ·rw[bD h] at e;exact S.smp _ _ e
 ·obtain⟨n,xs,q,_⟩:=S.slots.owns hl;have hne:l≠p:=bX q hp;exact⟨by rw[bD hne];exact n,λys e=>by rw[bD hne];exact e⟩
theorem StF.layO{p:BF}{xs:List V}(S:StF K H₀ F H σ sd)(hp:H p=none):StF K H₀ F (upd H p<|.lst xs) σ sd/\F p=none/\p∉bV sd:=by
 have fp:F p=none:=S.sub.free hp;refine⟨⟨S.base,λb u e=> ?_,λb u e=> ?_,S.slots.mono (Same.refl _) λl hl=> ?_,S.nd⟩,fp,λhl=> ?_⟩
 ·rw[bD<|bX e fp];exact S.sub _ _ e
 ·by_cases h:b=p
  ·subst h;rw[bM] at e;cases e;trivial
  ·rw[bD h] at e;exact S.smp _ _ e
 ·obtain⟨n,ys,q,_⟩:=S.slots.owns hl;have hne:l≠p:=bX q hp;exact⟨n,λys e=>by rw[bD hne];exact e⟩
 ·obtain⟨n,ys,q,_⟩:=S.slots.owns hl;rw[hp] at q;cases q
theorem StF.freeze{p:BF}{xs:List V}(S:StF K H₀ F H σ sd)(hp:H p=some (.lst xs))(fp:F p=none)(ho:p∉bV sd):StF K H₀ (upd F p<|.lst xs) H σ sd/\Same F (upd F p<|.lst xs):=by
 have s1:Same F (upd F p<|.lst xs):=λb u e=>by rw[bD<|bX e fp];exact e
 refine⟨⟨λb u e=>s1 _ _<|S.base _ _ e,λb u e=> ?_,S.smp,S.slots.mono s1 λl hl=> ?_,S.nd⟩,s1⟩
 ·by_cases h:b=p
  ·subst h;rw[bM] at e;rw[hp];exact e
  ·rw[bD h] at e;exact S.sub _ _ e
 ·obtain⟨n,ys,q,_⟩:=S.slots.owns hl;have hne:l≠p:=λz=>ho (z▸hl)
  exact⟨by rw[bD hne];exact n,λys e=>e⟩
theorem SlotsOk.len:∀ {sd:List Slot}{σ:St},SlotsOk K F H sd σ->σ.length=sd.length
 |[],_,h=>by have h:_=_:=h;rw[h];rfl
 |z::zs,σ,h=>by obtain⟨o,r,rfl,_,b⟩:=h;simp[SlotsOk.len b]
inductive R where
 |val (d:D)|own (ds:List D)|bor (ds:List D)|pr (d:D) (ls:List D)|ox (G:V->List BF->Hp->Hp->Prop)
def LOk(K:aA)(F H:Hp)(sd:List Slot)(v:V)(ds:List D):Prop:=
 ∃l xs,v=.ref l/\H l=some (.lst xs)/\RepL K F ds xs/\(F l=some (.lst xs)\/Slot.own l ds∈sd)
noncomputable def ResOk(K:aA)(F H:Hp)(sd:List Slot):R->V->Prop
 |.val d,v=>Rep K F d v
 |.own ds,v=>∃l xs,v=.ref l/\F l=none/\H l=some (.lst xs)/\RepL K F ds xs/\l∉bV sd
 |.bor ds,v=>LOk K F H sd v ds
 |.pr d ls,v=>∃t l xs y,v=.ref t/\F t=some (.tup [y,.ref l])/\Rep K F d y/\F l=none/\H l=some (.lst xs)/\RepL K F ls xs/\l∉bV sd
 |.ox G,v=>∃ls:List BF,ls.Nodup/\(∀l∈ls,F l=none/\(∃ob,H l=some ob/\Wr l ob)/\l∉bV sd)/\∀F' H',Same F F'->(∀l∈ls,∀ob,H l=some ob->H' l=some ob)->G v ls F' H'
noncomputable def R.keeps:R->Prop
 |.own _=>False
 |.pr _ _=>False
 |.ox _=>False
 |_=>True
variable {r:R}{v:V}
theorem ResOk.keep(hr:r.keeps)(h:ResOk K F H sd r v)(S':StF K H₀ F' H' σ sd)(s:Same F F'):ResOk K F' H' sd r v:=by
 cases r with
 |val d=>exact Rep.mono s h
 |own ds=>exact hr.elim
 |pr d ls=>exact hr.elim
 |ox G=>exact hr.elim
 |bor ds=>
  obtain⟨l,xs,e,hl,rl,q⟩:=h
  rcases q with q|q
  ·exact⟨l,xs,e,S'.sub _ _<|s _ _ q,rl.mono s,.inl<|s _ _ q⟩
  ·obtain⟨i,hi⟩:=cZ q;obtain⟨o,_,e2,_,ys,h1,h2⟩:=S'.slots.get hi;exact⟨l,ys,e,h1,h2,.inr q⟩
structure PEd(X:Cx)(sd:List Slot)(e:Expr)(r:R):Prop where
 run:∀ (σ:St) (F H:Hp),StF X.K X.B₀ F H σ sd->
 wE X e σ H λv H'=>∃F',StF X.K X.B₀ F' H' σ sd/\Same F F'/\ResOk X.K F' H' sd r v
instance {X:Cx}{sd:List Slot}{e:Expr}{r:R}:CoeFun (PEd X sd e r) (fun _=>∀ (σ:St) (F H:Hp),StF X.K X.B₀ F H σ sd→
 wE X e σ H λv H'=>∃F',StF X.K X.B₀ F' H' σ sd/\Same F F'/\ResOk X.K F' H' sd r v):=⟨PEd.run⟩
structure PTd(X:Cx)(sd:List Slot)(e:Expr)(b:Bool):Prop where
 run:∀ (σ:St) (F H:Hp),StF X.K X.B₀ F H σ sd->
 wT X e σ H λc H'=>c=b/\∃F',StF X.K X.B₀ F' H' σ sd/\Same F F'
instance {X:Cx}{sd:List Slot}{e:Expr}{b:Bool}:CoeFun (PTd X sd e b) (fun _=>∀ (σ:St) (F H:Hp),StF X.K X.B₀ F H σ sd→
 wT X e σ H λc H'=>c=b/\∃F',StF X.K X.B₀ F' H' σ sd/\Same F F'):=⟨PTd.run⟩
structure PWd(X:Cx)(sd:List Slot)(e:Expr)(b:Bool):Prop where
 run:∀ (σ:St) (F H:Hp),StF X.K X.B₀ F H σ sd->
 wW X e σ H λc H'=>c=b/\∃F',StF X.K X.B₀ F' H' σ sd/\Same F F'
instance {X:Cx}{sd:List Slot}{e:Expr}{b:Bool}:CoeFun (PWd X sd e b) (fun _=>∀ (σ:St) (F H:Hp),StF X.K X.B₀ F H σ sd→
 wW X e σ H λc H'=>c=b/\∃F',StF X.K X.B₀ F' H' σ sd/\Same F F'):=⟨PWd.run⟩
inductive RsOk(K:aA)(F H:Hp)(sd:List Slot):List R->List V->Prop
 |nil:RsOk K F H sd [] []
 |cons {r v rs vs}:ResOk K F H sd r v->RsOk K F H sd rs vs->RsOk K F H sd (r::rs) (v::vs)
structure PAd(X:Cx)(sd:List Slot)(es:List Expr)(rs:List R):Prop where
 run:∀ (σ:St) (F H:Hp),StF X.K X.B₀ F H σ sd->
 wA X es σ H λvs H'=>∃F',StF X.K X.B₀ F' H' σ sd/\Same F F'/\RsOk X.K F' H' sd rs vs
instance {X:Cx}{sd:List Slot}{es:List Expr}{rs:List R}:CoeFun (PAd X sd es rs) (fun _=>∀ (σ:St) (F H:Hp),StF X.K X.B₀ F H σ sd→
 wA X es σ H λvs H'=>∃F',StF X.K X.B₀ F' H' σ sd/\Same F F'/\RsOk X.K F' H' sd rs vs):=⟨PAd.run⟩
structure gY where
 nx:List Slot->Prop
 rt:R->Prop
 bk:List Slot->Prop:=λ_=>False
 ct:List Slot->Prop:=λ_=>False
def aDA(K:aA)(H₀ H:Hp)(r:R)(v:V):Prop:=∃F,Same H₀ F/\Same F H/\Smp H/\ResOk K F H [] r v
noncomputable def lft(X:Cx)(F₀:Hp)(E:gY):rN where
 nx:=λσ H=>∃sd F,StF X.K X.B₀ F H σ sd/\Same F₀ F/\E.nx sd
 rt:=λv H=>∃r,aDA X.K X.B₀ H r v/\E.rt r
 bk:=λσ H=>∃sd F,StF X.K X.B₀ F H σ sd/\Same F₀ F/\E.bk sd
 ct:=λσ H=>∃sd F,StF X.K X.B₀ F H σ sd/\Same F₀ F/\E.ct sd
structure PSd(X:Cx)(sd:List Slot)(sts:List BJ)(E:gY):Prop where
 run:∀ (σ:St) (F H:Hp),StF X.K X.B₀ F H σ sd->wSs X sts (lft X F E) σ H
instance {X:Cx}{sd:List Slot}{sts:List BJ}{E:gY}:CoeFun (PSd X sd sts E) (λ_=>∀ (σ:St) (F H:Hp),StF X.K X.B₀ F H σ sd->wSs X sts (lft X F E) σ H):=⟨PSd.run⟩
structure PSd1(X:Cx)(sd:List Slot)(st:BJ)(E:gY):Prop where
 run:∀ (σ:St) (F H:Hp),StF X.K X.B₀ F H σ sd->wS X st (lft X F E) σ H
instance {X:Cx}{sd:List Slot}{st:BJ}{E:gY}:CoeFun (PSd1 X sd st E) (λ_=>∀ (σ:St) (F H:Hp),StF X.K X.B₀ F H σ sd->wS X st (lft X F E) σ H):=⟨PSd1.run⟩
variable {X:Cx}{e a b c:Expr}{es:List Expr}{pos:Pos}{ra rb:R}{d:D}{ds:List D}
theorem PEd.val(h:PEd X sd e (.own ds)):PEd X sd e (.val<|.lst ds):=.mk λσ F H S=>(h σ F H S).imp λv H' ⟨F',S',s,l,xs,e,n,q,rl,no⟩=>by obtain⟨S2,s2⟩:=S'.freeze q n no;refine⟨_,S2,s.trans s2, ?_⟩;show Rep _ _ _ _;simp only[Rep];exact⟨l,xs,e,bM,rl.mono s2⟩
theorem PEd.bor(h:PEd X sd e (.val<|.lst ds)):PEd X sd e (.bor ds):=.mk λσ F H S=>(h σ F H S).imp λv H' ⟨F',S',s,q⟩=>by have q:Rep _ _ _ _:=q;simp only[Rep] at q;obtain⟨l,xs,e,q,rl⟩:=q;exact⟨F',S',s,l,xs,e,S'.sub _ _ q,rl,.inl q⟩
theorem mR(i:Nat){x:Str}(hs:sd[i]? =some (.val d))(h:PE X (.Name x pos) (iX i)):PEd X sd (.Name x pos) (.val d):= .mk fun σ F H S=>h.to (by
 obtain⟨o,h1,v,h2,q⟩:=S.slots.get hs
 exact⟨v,by rw[h1,h2],F,S,Same.refl _,q⟩)
theorem aGD(i:Nat){x:Str}{l:BF}(hs:sd[i]? =some (.own l ds))(h:PE X (.Name x pos) (iX i)):PEd X sd (.Name x pos) (.bor ds):= .mk fun σ F H S=>h.to (by
 obtain⟨o,h1,h2,n,xs,q,rl⟩:=S.slots.get hs
 exact⟨.ref l,by rw[h1,h2],F,S,Same.refl _,l,xs,rfl,q,rl,.inr (aN hs)⟩)
theorem bW{i j}:PEd X sd (.Constant (.int i) j pos) (.val<|.int i):=.mk λσ F H S=>pe_int.to ⟨F,S,Same.refl _,by simp only[ResOk,Rep]⟩
theorem aGe{i j}:PEd X sd (.Constant (.bool i) j pos) (.val<|.bl i):=.mk λσ F H S=>pe_bl.to ⟨F,S,Same.refl _,by simp only[ResOk,Rep]⟩
theorem cU{i j}:PEd X sd (.Constant (.str i) j pos) (.val<|.str i):=.mk λσ F H S=>pe_str.to ⟨F,S,Same.refl _,by simp only[ResOk,Rep]⟩
theorem aDL{x:Str}{i:Int}{u:BD}(hg:Gl X x)(hm:X.mg x=some u)(ru:RelV (.int i) u)(hd:(x==("__debug__":Str))=false:=by decide):PEd X sd (.Name x pos) (.val<|.int i):=.mk λσ F H S=>(lS hg hm ru hd).to ⟨F,S,Same.refl _,by simp only[ResOk,Rep]⟩
theorem aW:PAd X sd [] []:=.mk λσ F H S=>pa_nil.to ⟨F,S,Same.refl _,.nil⟩
theorem aG{rs:List R}(h1:PEd X sd e r)(h2:PAd X sd es rs)(hk:r.keeps:=by trivial)(hs:AC (e::es) X.env=(false,eval e X.env)::AC es X.env:=by rfl):PAd X sd (e::es) (r::rs):=.mk λσ F H S=>(dE fG xQ hs).to<|(h1 σ F H S).imp λv H1 ⟨F1,S1,s1,q1⟩=>(h2 σ F1 H1 S1).imp λvs H2 ⟨F2,S2,s2,q2⟩=>⟨F2,S2,s1.trans s2,.cons (q1.keep hk S2 s2) q2⟩
theorem RsOk.vals{K:aA}{F H:Hp}:∀ {ds:List D}{vs:List V},RsOk K F H sd (ds.map R.val) vs->RepL K F ds vs
 |[],_,.nil=>.nil
 |_::_,_,.cons q t=>.cons q<|RsOk.vals t
theorem aBc{x1}(h:PAd X sd es (ds.map R.val))(hl:ds.length<=10000):PEd X sd (.Tuple es x1 pos) (.val<|.tup ds):=.mk λσ F H S=>
 (aBh xQ).to ((h σ F H S).imp fun vs H1 ⟨F1,S1,s1,q1⟩=>by
  have rl:=q1.vals;refine⟨by rw[rl.len];exact dC<|eV hl,λp hp=> ?_⟩;obtain⟨S2,s2⟩:=S1.lay (o:=.tup vs) hp trivial;refine⟨_,S2,s1.trans s2, ?_⟩;simp only[ResOk,Rep]
  exact⟨p,vs,rfl,bM,rl.mono s2⟩)
theorem mQ(h:PAd X sd es (ds.map R.val))(hl:ds.length<=10000):PEd X sd (.List es pos) (.own ds):=.mk λσ F H S=>
 (aJJ xQ).to ((h σ F H S).imp fun vs H1 ⟨F1,S1,s1,q1⟩=>by
  have rl:=q1.vals;refine⟨by rw[rl.len];exact dC<|eV hl,λp hp=> ?_⟩;obtain⟨S2,fp,no⟩:=S1.layO (xs:=vs) hp
  exact⟨_,S2,s1,p,vs,rfl,fp,bM,rl,no⟩)
theorem aBf{op:Operator}{r2:R2}(ho:OpR X (Ah op) r2)(ha:PEd X sd a ra)(hb:PEd X sd b rb)(hk:ra.keeps)
  (h:∀ (σ:St) (F H:Hp) (v u:V) (Q:VK),StF X.K X.B₀ F H σ sd->ResOk X.K F H sd ra v->ResOk X.K F H sd rb u->(∀w F' H',StF X.K X.B₀ F' H' σ sd->Same F F'->ResOk X.K F' H' sd r w->Q w H')->r2 v u H Q):
  PEd X sd (.BinOp a op b pos) r:=.mk λσ F H S=>
 (aLh ho fG fG).to ((ha σ F H S).imp λv H1 ⟨F1,S1,s1,q1⟩=>(hb σ F1 H1 S1).imp λu H2 ⟨F2,S2,s2,q2⟩=>h σ F2 H2 v u _ S2 (q1.keep hk S2 s2) q2 λw F' H' S' s' q'=>⟨F',S',(s1.trans s2).trans s',q'⟩)
theorem aBE{op:CmpOp}{r2:R2}(ho:OpR X (Ad op) r2)(ha:PEd X sd a ra)(hb:PEd X sd b rb)(hk:ra.keeps)(hm:Ab op b=false){k:Bool}
  (h:∀ (σ:St) (F H:Hp) (v u:V) (Q:VK),StF X.K X.B₀ F H σ sd->ResOk X.K F H sd ra v->ResOk X.K F H sd rb u->(∀F' H',StF X.K X.B₀ F' H' σ sd->Same F F'->Q (.bl k) H')->r2 v u H Q):
  PEd X sd (.Compare a [op] [b] pos) (.val<|.bl k):=.mk λσ F H S=>
 (aHK ho fG fG hm).to ((ha σ F H S).imp λv H1 ⟨F1,S1,s1,q1⟩=>(hb σ F1 H1 S1).imp λu H2 ⟨F2,S2,s2,q2⟩=>h σ F2 H2 v u _ S2 (q1.keep hk S2 s2) q2 λF' H' S' s'=>⟨F',S',(s1.trans s2).trans s',by simp only[ResOk,Rep]⟩)
theorem xB{k:Bool}(h:PEd X sd e (.val<|.bl k))(he:∀whole,isTrue e X.env whole=(do let v <-whole;standAt e.pos;holding [v] (truthy v)):=by intro _;rfl):PTd X sd e k:=.mk λσ F H S=>
 (aIZ fG he).to ((h σ F H S).imp fun v H1 ⟨F1,S1,s1,q1⟩=>by
  simp only[ResOk,Rep] at q1
  exact⟨k,q1,rfl,F1,S1,s1⟩)
theorem pW{op:CmpOp}{r2:R2}(ho:OpR X (Ad op) r2)(ha:PEd X sd a ra)(hb:PEd X sd b rb)(hk:ra.keeps)(hm:Ab op b=false){k:Bool}
  (h:∀ (σ:St) (F H:Hp) (v u:V) (Q:VK),StF X.K X.B₀ F H σ sd->ResOk X.K F H sd ra v->ResOk X.K F H sd rb u->(∀F' H',StF X.K X.B₀ F' H' σ sd->Same F F'->Q (.bl k) H')->r2 v u H Q):
  PTd X sd (.Compare a [op] [b] pos) k:=.mk λσ F H S=>
 (xN ho fG fG hm).to ((ha σ F H S).imp λv H1 ⟨F1,S1,s1,q1⟩=>(hb σ F1 H1 S1).imp λu H2 ⟨F2,S2,s2,q2⟩=>h σ F2 H2 v u _ S2 (q1.keep hk S2 s2) q2 λF' H' S' s'=>⟨k,rfl,rfl,F',S',(s1.trans s2).trans s'⟩)
variable {st:BJ}{rest:List BJ}{E:gY}
theorem wS.imp{D D':rN}(h:wS X st D σ H)(k1:∀σ H,D.nx σ H->D'.nx σ H)(k2:∀v H,D.rt v H->D'.rt v H)(k3:∀σ H,D.bk σ H->D'.bk σ H)(k4:∀σ H,D.ct σ H->D'.ct σ H):wS X st D' σ H:=
 λpins s I=>thn (h pins s I) λf s' q=>q.imp k1 k2 k3 k4
theorem xK{k:Bool}(h:PTd X sd e k):PTd X sd (.UnaryOp .Not e pos) (!k):=.mk λσ F H S=>(aJA aFW).to<|(h σ F H S).imp λc H' ⟨e,q⟩=>⟨by rw[e],q⟩
theorem aEz{k:Bool}(h:PTd X sd a k):PWd X sd (.BoolOp .And [a] pos) k:=.mk λσ F H S=>(aGM aFW).to<|h σ F H S
theorem rZ{k:Bool}(h:PTd X sd a k):PWd X sd (.BoolOp .Or [a] pos) k:=.mk λσ F H S=>(aKr aFW).to<|h σ F H S
theorem aHC{k j:Bool}(h:PTd X sd a k)(h2:k=true->PWd X sd (.BoolOp .And (b::es) pos) j):PWd X sd (.BoolOp .And (a::b::es) pos) (k&&j):=.mk λσ F H S=>
 (aJy aFW aKX).to ((h σ F H S).imp fun c H' ⟨e,F',S',s'⟩=>by
  subst e;cases c with
  |false=>exact aFV ⟨rfl,F',S',s'⟩
  |true=>exact aFU ((h2 rfl σ F' H' S').imp λc2 H2 ⟨e2,F2,S2,s2⟩=>⟨by rw[e2];rfl,F2,S2,s'.trans s2⟩))
theorem qU{k j:Bool}(h:PTd X sd a k)(h2:k=false->PWd X sd (.BoolOp .Or (b::es) pos) j):PWd X sd (.BoolOp .Or (a::b::es) pos) (k||j):=.mk λσ F H S=>
 (aLn aFW aKX).to ((h σ F H S).imp fun c H' ⟨e,F',S',s'⟩=>by
  subst e;cases c with
  |true=>exact aFU ⟨rfl,F',S',s'⟩
  |false=>exact aFV ((h2 rfl σ F' H' S').imp λc2 H2 ⟨e2,F2,S2,s2⟩=>⟨by rw[e2];rfl,F2,S2,s'.trans s2⟩))
theorem PWd.pt{k:Bool}(h:PWd X sd e k):PTd X sd e k:=.mk λσ F H S=>(aKX).pt.to<|h σ F H S
theorem aFo{op}{r:R}(h:PEd X sd a r):PEd X sd (.BoolOp op [a] pos) r:=.mk λσ F H S=>(aJY fG).to<|h σ F H S
theorem aFM{k j:Bool}(h:PEd X sd a (.val<|.bl k))(h2:k=true->PEd X sd (.BoolOp .And (b::es) pos) (.val<|.bl j)):PEd X sd (.BoolOp .And (a::b::es) pos) (.val (.bl<|k&&j)):=.mk λσ F H S=>
 (aKk fG fG).to ((h σ F H S).imp fun v H' ⟨F',S',s',q⟩=>by
  simp only[ResOk,Rep] at q;subst q;refine⟨k,rfl, ?_⟩;cases k with
  |false=>exact aFV ⟨F',S',s',by simp only[ResOk,Rep,wJ]⟩
  |true=>exact aFU ((h2 rfl σ F' H' S').imp λv2 H2 ⟨F2,S2,s2,q2⟩=>⟨F2,S2,s'.trans s2,by simpa only[Bool.true_and] using q2⟩))
theorem aKc{k:Bool}(h:PEd X sd a (.val<|.bl k)):PEd X sd (.UnaryOp .Not a pos) (.val (.bl<|!k)):=.mk λσ F H S=>
 (aKd fG).to ((h σ F H S).imp fun v H' ⟨F',S',s',q⟩=>by
  simp only[ResOk,Rep] at q
  exact⟨k,q,F',S',s',by simp only[ResOk,Rep]⟩)
theorem fV{op:Operator}{g:Int->Int->Int}{i j:Int}(ho:OpR X (Ah op) (rI0 λi j=>.int<|g i j))(ha:PEd X sd a (.val<|.int i))(hb:PEd X sd b (.val<|.int j)):PEd X sd (.BinOp a op b pos) (.val (.int<|g i j)):=
 aBf ho ha hb trivial λσ F H v u Q S q1 q2 k=>by simp only[ResOk,Rep] at q1 q2;exact⟨i,j,q1,q2,k _ F H S (Same.refl _)<|by simp only[ResOk,Rep]⟩
theorem dP{op:Operator}{g:Int->Int->Int}{C:Int->Int->Prop}{i j:Int}(ho:OpR X (Ah op) (rI C λi j=>.int<|g i j))(ha:PEd X sd a (.val<|.int i))(hb:PEd X sd b (.val<|.int j))(hc:C i j):PEd X sd (.BinOp a op b pos) (.val (.int<|g i j)):=
 aBf ho ha hb trivial λσ F H v u Q S q1 q2 k=>by simp only[ResOk,Rep] at q1 q2;exact⟨i,j,q1,q2,hc,k _ F H S (Same.refl _)<|by simp only[ResOk,Rep]⟩
theorem jP:OpR X (Ah .Mult) (rI IntMulOk λi j=>.int<|i*j):=opI λ_ _ _ _ _ _ _ hc q=>mul_int q hc
theorem yZ:OpR X (Ah .FloorDiv) (rI (λ_ j=>0<j/\j.natAbs.log2<9000) λi j=>.int<|i / j):=opI λi j _ _ _ _ _ hc q=>by have h1:(0:Int)<j:=hc.1;exact floordiv_int (by omega) (by rw[yO i<|by omega];exact q) (.inl<|PyProof.noPylong_of_log2 hc.2)
theorem mM{op:CmpOp}{g:Int->Int->Bool}{i j:Int}(ho:OpR X (Ad op) (rI0 λi j=>.bl<|g i j))(ha:PEd X sd a (.val<|.int i))(hb:PEd X sd b (.val<|.int j))(hm:Ab op b=false):PTd X sd (.Compare a [op] [b] pos) (g i j):=
 pW ho ha hb trivial hm λσ F H v u Q S q1 q2 k=>by simp only[ResOk,Rep] at q1 q2;exact⟨i,j,q1,q2,k F H S<|Same.refl _⟩
noncomputable def flt:D->Option V
 |.non=>some .non
 |.bl b=>some<|.bl b
 |.int i=>some<|.int i
 |.str x=>some<|.str x
 |_=>none
theorem oO{x:V}(h:flt d=some x)(q:Rep K H d v):v=x:=by
 cases d with
 |non=>simp only[Rep] at q;simp only[flt] at h;rw[q];exact bY.inj h
 |bl=>simp only[Rep] at q;simp only[flt] at h;rw[q];exact bY.inj h
 |int=>simp only[Rep] at q;simp only[flt] at h;rw[q];exact bY.inj h
 |str=>simp only[Rep] at q;simp only[flt] at h;rw[q];exact bY.inj h
 |tup=>simp only[flt] at h;cases h
 |lst=>simp only[flt] at h;cases h
 |dic=>simp only[flt] at h;cases h
 |dki=>simp only[flt] at h;cases h
 |any=>simp only[flt] at h;cases h
 |scr=>simp only[flt] at h;cases h
theorem cE{d1 d2:D}{x y:V}{k:Bool}(ha:PEd X sd a (.val d1))(hb:PEd X sd b (.val d2))(h1:flt d1=some x)(h2:flt d2=some y)(hs:aKz x y=true)(hk:decide (x=y)=k):PTd X sd (.Compare a [.Eq] [b] pos) k:=
 pW aIX ha hb trivial (jK _) λσ F H v u Q S q1 q2 kk=>by have e1:=oO h1 q1;have e2:=oO h2 q2;subst e1 e2;exact⟨hs,by rw[hk];exact kk F H S<|Same.refl _⟩
theorem aGC{d1 d2:D}{x y:V}{k:Bool}(ha:PEd X sd a (.val d1))(hb:PEd X sd b (.val d2))(h1:flt d1=some x)(h2:flt d2=some y)(hs:aKz x y=true)(hk:(!decide (x=y))=k):PTd X sd (.Compare a [.NotEq] [b] pos) k:=
 pW aLf ha hb trivial (jK _) λσ F H v u Q S q1 q2 kk=>by have e1:=oO h1 q1;have e2:=oO h2 q2;subst e1 e2;exact⟨hs,by rw[hk];exact kk F H S<|Same.refl _⟩
theorem aHO{i j:Int}(ha:PEd X sd a (.val<|.int i))(hb:PEd X sd b (.val<|.int j)):PTd X sd (.Compare a [.Eq] [b] pos) (decide<|i=j):=cE ha hb rfl rfl rfl (by rw[oZ,nN])
theorem aHU{i j:Int}(ha:PEd X sd a (.val<|.int i))(hb:PEd X sd b (.val<|.int j)):PTd X sd (.Compare a [.NotEq] [b] pos) (!decide (i=j)):=aGC ha hb rfl rfl rfl (by rw[oZ,nN])
theorem aBo{n:Nat}(ha:PEd X sd a (.val<|.tup ds))(hb:PEd X sd b (.val<|.int (n:Int)))(hd:ds[n]? =some d)(hs:lP b):PEd X sd (.Subscript a b pos) (.val d):=.mk λσ F H S=>
 (aDy aJj fG fG hs).to ((ha σ F H S).imp fun v H1 ⟨F1,S1,s1,q1⟩=>(hb σ F1 H1 S1).imp fun u H2 ⟨F2,S2,s2,q2⟩=>by
  have q1:=Rep.mono s2 q1;simp only[ResOk,Rep] at q1 q2;obtain⟨p,xs,e1,hp,rl⟩:=q1;obtain⟨w,hw,rw'⟩:=rl.get hd
  exact⟨p,xs,(n:Int),w,e1,q2,.of (S2.sub _ _ hp),xS hw,F2,S2,s1.trans s2,rw'⟩)
theorem qO{n:Nat}(ha:PEd X sd a (.bor ds))(hb:PEd X sd b (.val<|.int (n:Int)))(hd:ds[n]? =some d)(hs:lP b):PEd X sd (.Subscript a b pos) (.val d):=.mk λσ F H S=>
 (aDy xW fG fG hs).to ((ha σ F H S).imp fun v H1 ⟨F1,S1,s1,q1⟩=>(hb σ F1 H1 S1).imp fun u H2 ⟨F2,S2,s2,q2⟩=>by
  obtain⟨p,xs,e1,hp,rl,_⟩:=ResOk.keep (r:=.bor ds) trivial q1 S2 s2;simp only[ResOk,Rep] at q2;obtain⟨w,hw,rw'⟩:=rl.get hd
  exact⟨p,xs,(n:Int),w,e1,q2,.of hp,xS hw,F2,S2,s1.trans s2,rw'⟩)
theorem aJM{ns:List Int}{n:Nat}{z:Int}(ha:PEd X sd a (.val<|.scr ns))(hb:PEd X sd b (.val<|.int (n:Int)))(hd:ns[n]? =some z)(hs:lP b):PEd X sd (.Subscript a b pos) (.val<|.int z):=.mk λσ F H S=>
 (aDy xW fG fG hs).to ((ha σ F H S).imp fun v H1 ⟨F1,S1,s1,q1⟩=>(hb σ F1 H1 S1).imp fun u H2 ⟨F2,S2,s2,q2⟩=>by
  have q1:=Rep.mono (s2.trans S2.sub) q1;simp only[ResOk,Rep] at q1 q2;obtain⟨p,e1,hp⟩:=q1
  exact⟨p,_,(n:Int),.int z,e1,q2,hp,xS (by rw[bB,hd];rfl),F2,S2,s1.trans s2,by simp only[ResOk,Rep]⟩)
theorem sX{x:Str}{p:Pos}{id:String}{rr:List V->Hp->VK->Prop}{rs:List R}(hc:kI X (.builtin id) rr)(hg:Gl X x)(hm:X.mg x=none)(hv:Ac x=some (.builtin id))(ha:PAd X sd (e::es) rs)
  (h:∀ (σ:St) (F H:Hp) (vs:List V) (Q:VK),StF X.K X.B₀ F H σ sd->RsOk X.K F H sd rs vs->(∀w F' H',StF X.K X.B₀ F' H' σ sd->Same F F'->ResOk X.K F' H' sd r w->Q w H')->rr vs H Q)
  (hn:x≠"__name__":=by decide) (hdb:(x==("__debug__":Str))=false:=by decide) (he:AC (e::es) X.env=(false,eval e X.env)::AC es X.env:=by rfl) (hpl:(Ae pos<|AC es X.env).any (·.1)=false:=by rfl):
  PEd X sd (.Call (.Name x p) (e::es) [] pos) r:=.mk λσ F H S=>
 (jG hc hg hm hv xQ hn hdb he hpl).to ((ha σ F H S).imp λvs H1 ⟨F1,S1,s1,q1⟩=>h σ F1 H1 vs _ S1 q1 λw F' H' S' s' q'=>⟨F',S',s1.trans s',q'⟩)
theorem vM{x:Str}{p:Pos}{T:String}{rr:List V->Hp->VK->Prop}{rs:List R}(hc:kI X (.type T) rr)(hg:Gl X x)(hm:X.mg x=none)(hv:Ac x=some (.type T))(ha:PAd X sd (e::es) rs)
  (h:∀ (σ:St) (F H:Hp) (vs:List V) (Q:VK),StF X.K X.B₀ F H σ sd->RsOk X.K F H sd rs vs->(∀w F' H',StF X.K X.B₀ F' H' σ sd->Same F F'->ResOk X.K F' H' sd r w->Q w H')->rr vs H Q)
  (hn:x≠"__name__":=by decide) (hdb:(x==("__debug__":Str))=false:=by decide) (he:AC (e::es) X.env=(false,eval e X.env)::AC es X.env:=by rfl) (hpl:(Ae pos<|AC es X.env).any (·.1)=false:=by rfl):
  PEd X sd (.Call (.Name x p) (e::es) [] pos) r:=.mk λσ F H S=>
 (aCH hc hg hm hv xQ hn hdb he hpl).to ((ha σ F H S).imp λvs H1 ⟨F1,S1,s1,q1⟩=>h σ F1 H1 vs _ S1 q1 λw F' H' S' s' q'=>⟨F',S',s1.trans s',q'⟩)
theorem pM{p:Pos}(hg:Gl X "len")(hm:X.mg "len"=none)(ha:PEd X sd e (.bor ds))(hst:AC [e] X.env=(false,eval e X.env)::AC [] X.env:=by rfl):PEd X sd (.Call (.Name "len" p) [e] [] pos) (.val<|.int ds.length):=
 sX (he:=hst) oR hg hm PySem.boot_len (aG ha aW trivial hst) λσ F H vs Q S q k=>by
  cases q with
  |cons q1 q2=>cases q2;obtain⟨p,xs,rfl,hp,rl,_⟩:=q1;refine⟨p,xs,rfl,.inl<|.of hp,k _ F H S (Same.refl _) ?_⟩;simp only[ResOk,Rep,rl.len]
theorem aGJ{p:Pos}{ns:List Int}(hg:Gl X "len")(hm:X.mg "len"=none)(ha:PEd X sd e (.val<|.scr ns))(hst:AC [e] X.env=(false,eval e X.env)::AC [] X.env:=by rfl):PEd X sd (.Call (.Name "len" p) [e] [] pos) (.val<|.int ns.length):=
 sX (he:=hst) oR hg hm PySem.boot_len (aG ha aW trivial hst) λσ F H vs Q S q k=>by
  cases q with
  |cons q1 q2=>cases q2;have q1:=Rep.mono S.sub q1;simp only[Rep] at q1;obtain⟨p,rfl,hp⟩:=q1;refine⟨p,_,rfl,.inl hp,k _ F H S (Same.refl _) ?_⟩;simp only[ResOk,Rep,aB]
noncomputable def tyD:D->BD
 |.non=>.type "NoneType"
 |.bl _=>.type "bool"
 |.int _=>.type "int"
 |.str _=>.type "str"
 |.tup _=>.type "tuple"
 |.lst _=>.type "list"
 |.dic=>.type "dict"
 |.dki _ _=>.type "dict"
 |.any _=>.type "dict"
 |.scr _=>.type "list"
theorem aLy(h:∀ns,d≠ .scr ns)(hA:∀G,d≠ .any G)(q:Rep K H d v):pA K H v (tyD d):=by
 cases d with
 |non=>simp only[Rep] at q;subst q;exact .non
 |bl b=>simp only[Rep] at q;subst q;exact .bl b
 |int b=>simp only[Rep] at q;subst q;exact .int b
 |str b=>simp only[Rep] at q;subst q;exact .str b
 |tup ds=>simp only[Rep] at q;obtain⟨a,xs,rfl,h,_⟩:=q;exact .tup h
 |lst ds=>simp only[Rep] at q;obtain⟨a,xs,rfl,h,_⟩:=q;exact .lst h
 |dic=>simp only[Rep] at q;obtain⟨a,rfl,h⟩:=q;exact .dK<|.of h
 |dki ks ds=>simp only[Rep] at q;obtain⟨a,xs,rfl,h,_⟩:=q;exact .dK<|.inr h
 |scr ns=>exact absurd rfl<|h ns
 |any G=>exact absurd rfl<|hA G
theorem aCM:kI X (.builtin "isinstance") (λxs H Q=>∃x t n k,xs=[x,.ty n]/\pA X.K H x t/\bP X.K t (.type n)=some k/\Q (.bl k) H):=by intro pins s σ H xs us Q I r h;obtain⟨x,t,n,k,rfl,ty,e,q⟩:=h;obtain⟨u,u',rfl,ru,ru'⟩:=aGp r;cases(show u'=Value.type n from ru');exact aDd I ru ty e λtk=>⟨.bl k,H,I.tok tk,rfl,q⟩
theorem aBG{x:Str}{n:String}(hg:Gl X x)(hm:X.mg x=none)(hv:Ac x=some (.type n))(hn:x≠"__name__":=by decide)(hd:(x==("__debug__":Str))=false:=by decide):PE X (.Name x pos) (tC<|.ty n):=aHy hg hm hv rfl hn hd
theorem aHM{x:Str}{n:String}{p p2:Pos}{k:Bool}(hg:Gl X "isinstance")(hm:X.mg "isinstance"=none)(hgx:Gl X x)(hmx:X.mg x=none)(hv:Ac x=some (.type n))(ha:PEd X sd e (.val d))(hd:∀ns,d≠ .scr ns)
  (hk:bP X.K (tyD d) (.type n)=some k) (hA:∀G,d≠ .any G:=by(intro _ h;cases h)) (hn:x≠"__name__":=by decide) (hdb:(x==("__debug__":Str))=false:=by decide)
  (he:AC (e::[.Name x p2]) X.env=(false,eval e X.env)::AC [.Name x p2] X.env:=by rfl) (hpl:(Ae pos<|AC [.Name x p2] X.env).any (·.1)=false:=by rfl) (hs2:AC [.Name x p2] X.env=(false,eval (.Name x p2) X.env)::AC [] X.env:=by rfl):
  PEd X sd (.Call (.Name "isinstance" p) [e, .Name x p2] [] pos) (.val<|.bl k):=.mk λσ F H S=>
 (jG aCM hg hm boot_isinstance (dE fG (dE (aBG hgx hmx hv hn hdb) pa_nil hs2) he) (by decide) (by decide) he hpl).to ((ha σ F H S).imp λv H1 ⟨F1,S1,s1,q1⟩=>by exact⟨v,tyD d,n,k,rfl,aLy hd hA<|Rep.mono S1.sub q1,hk,F1,S1,s1,by simp only[ResOk,Rep]⟩)
theorem cM(h:E.nx sd):PSd X sd [] E:=.mk λσ F H S=>pss_nil.to ⟨sd,F,S,Same.refl _,h⟩
theorem aI(h:PSd1 X sd st {E with nx:=λsd'=>PSd X sd' rest E}):PSd X sd (st::rest) E:=.mk λσ F H S=>
 (aDE aLZ pQ).to (wS.imp (h σ F H S) (fun σ' H' ⟨sd',F',S',s',q⟩=>(q σ' F' H' S').imp (fun σ2 H2 ⟨sd2,F2,S2,s2,q2⟩=>⟨sd2,F2,S2,s'.trans s2,q2⟩) (fun v H2 q2=>q2)
  (λσ2 H2 ⟨sd2,F2,S2,s2,q2⟩=>⟨sd2,F2,S2,s'.trans s2,q2⟩) λσ2 H2 ⟨sd2,F2,S2,s2,q2⟩=>⟨sd2,F2,S2,s'.trans s2,q2⟩) (λv H q=>q) (λσ H q=>q) λσ H q=>q)
theorem bE(h:PSd1 X sd st E):PSd X sd [st] E:=.mk λσ F H S=>(aHl aLZ).to<|h σ F H S
theorem dR(h:PEd X sd e r)(hr:match r with | .bor _=>False|_=>True)(hE:E.rt r):PSd1 X sd (.Return (some e) pos) E:=.mk λσ F H S=>
 (aFy fG).to ((h σ F H S).imp fun v H' ⟨F',S',s',q⟩=>⟨r,⟨F',S'.base,S'.sub,S'.smp,by
  cases r with
  |val d=>exact q
  |own ds=>obtain⟨l,xs,a,b,c,d,_⟩:=q;exact⟨l,xs,a,b,c,d,by simp[bV]⟩
  |pr d ls=>obtain⟨t,l,xs,y,a,b,c,d,e,f,_⟩:=q;exact⟨t,l,xs,y,a,b,c,d,e,f,by simp[bV]⟩
  |ox G=>obtain⟨ls,nd,h,g⟩:=q;exact⟨ls,nd,λl hl=>⟨(h l hl).1,(h l hl).2.1,by simp[bV]⟩,g⟩
  |bor ds=>exact hr.elim⟩,hE⟩)
theorem jV(i:Nat){x:Str}{p:Pos}{l:BF}(hs:sd[i]? =some (.own l ds))(h:PE X (.Name x p) (iX i))(hE:E.rt (.own ds)):PSd1 X sd (.Return (some<|.Name x p) pos) E:=.mk λσ F H S=>
 (aFy h).to (by
  obtain⟨o,h1,h2,n,xs,q,rl⟩:=S.slots.get hs
  exact⟨.ref l,by rw[h1,h2],.own ds,⟨F,S.base,S.sub,S.smp,l,xs,rfl,n,q,rl,by simp[bV]⟩,hE⟩)
theorem gK{k:Bool}{a o:List BJ}(h:PTd X sd c k)(h1:k=true->PSd X sd a E)(h2:k=false->PSd X sd o E):PSd1 X sd (.If c a o pos) E:=.mk λσ F H S=>
 (aLC aFW pQ pQ).to ((h σ F H S).imp fun k' H' ⟨e,F',S',s'⟩=>by
  have up:∀ {sts:List BJ},PSd X sd sts E->wSs X sts (lft X F E) σ H':=λh=>(h σ F' H' S').imp (λσ2 H2 ⟨sd2,F2,S2,s2,q2⟩=>⟨sd2,F2,S2,s'.trans s2,q2⟩) (λv H2 q2=>q2)
   (λσ2 H2 ⟨sd2,F2,S2,s2,q2⟩=>⟨sd2,F2,S2,s'.trans s2,q2⟩) λσ2 H2 ⟨sd2,F2,S2,s2,q2⟩=>⟨sd2,F2,S2,s'.trans s2,q2⟩
  subst e;cases k' with
  |true=>exact aFU (up<|h1 rfl)
  |false=>exact aFV (up (h2 rfl)))
theorem gT:∀ {sd:List Slot}{z:Slot} (i:Nat),(bV sd).Nodup->(∀l,l∈fU z->l∉bV sd\/(∃z',sd[i]? =some z'/\l∈fU z'))->(hz:(fU z).Nodup:=by simp[fU])->(bV<|sd.set i z).Nodup/\∀l,l∈bV (sd.set i z)->l∈bV sd\/l∈fU z
 |[],z,i,h,_,_=>⟨h,λl hl=>.inl hl⟩
 |z'::zs,z,0,h,hz,nz=>by
  show(fU z++bV zs).Nodup/\∀l,l∈fU z++bV zs->_;obtain⟨n1,n2,n3⟩:=aY.mp (show(fU z'++bV zs).Nodup from h);refine⟨aY.mpr ⟨nz,n2,λa ha b hb e=> ?_⟩,λl hl=> ?_⟩
  ·subst e
   rcases hz a ha with y|⟨z2,e2,y⟩
   ·exact y<|aH _ hb
   ·have:z'=z2:=by simpa using e2
    subst this;exact n3 a y a hb rfl
  ·rcases aK.mp hl with y|y
   ·exact .inr y
   ·exact .inl<|aH _ y
 |z'::zs,z,i+1,h,hz,nz=>by
  show(fU z'++bV (zs.set i z)).Nodup/\∀l,l∈fU z'++bV (zs.set i z)->_;obtain⟨n1,n2,n3⟩:=aY.mp (show(fU z'++bV zs).Nodup from h)
  obtain ⟨i1,i2⟩:=gT (sd:=zs) (z:=z) i n2 (fun l hl=>by
   rcases hz l hl with y|⟨z2,e2,y⟩
   ·exact .inl λq=>y<|aH _ q
   ·exact .inr ⟨z2,by simpa using e2,y⟩) nz
  refine⟨aY.mpr ⟨n1,i1,λa ha b hb e=> ?_⟩,λl hl=> ?_⟩
  ·subst e
   rcases i2 a hb with y|y
   ·exact n3 a ha a y rfl
   ·rcases hz a y with y|⟨z2,e2,y⟩
    ·exact y<|aS _ ha
    ·have m:a∈bV zs:=cW.mpr ⟨z2,aN (by simpa using e2),y⟩;exact n3 a ha a m rfl
  ·rcases aK.mp hl with y|y
   ·exact .inl<|aS _ y
   ·rcases i2 l y with y|y
    ·exact .inl<|aH _ y
    ·exact .inr y
theorem StF.set(S:StF K H₀ F H σ sd)(i:Nat)(q:Rep K F d v):StF K H₀ F H (σ.set i (some v)) (sd.set i<|.val d):=
 ⟨S.base,S.sub,S.smp,S.slots.set (z:=.val d) ⟨v,rfl,q⟩ i,(gT i S.nd λl e=>by simp[fU] at e).1⟩
theorem StF.setO{l:BF}{xs:List V}(S:StF K H₀ F H σ sd)(i:Nat)(n:F l=none)(h:H l=some (.lst xs))(q:RepL K F ds xs)(no:l∉bV sd):StF K H₀ F H (σ.set i (some<|.ref l)) (sd.set i<|.own l ds):=
 ⟨S.base,S.sub,S.smp,S.slots.set (z:=.own l ds) ⟨rfl,n,xs,h,q⟩ i,(gT i S.nd λl' e=>by rw[aD.mp e];exact .inl no).1⟩
theorem iF(i:Nat){x:Str}{p:Pos}(hN:X.N.Nodup)(hi:X.N[i]? =some x)(hx:Loc X.env.scope x)(h:PEd X sd e (.val d))(hE:E.nx (sd.set i<|.val d))(hs:AV e (some<|.Name x p) pos.line X.env=pure false:=by rfl)
  (hf:X.fn x=true\/X.env.scope.names.lookup x=some .local:=by first|exact .inl rfl|exact .inr rfl|assumption):PSd1 X sd (.Assign [.Name x p] e pos) E:=.mk λσ F H S=>
 (mK hN hi hx fG hs hf).to ((h σ F H S).imp λv H' ⟨F',S',s',q⟩=>⟨_,F',S'.set i q,s',hE⟩)
theorem oX(i:Nat){x:Str}{p:Pos}(hN:X.N.Nodup)(hi:X.N[i]? =some x)(hx:Loc X.env.scope x)(h:PEd X sd e (.own ds))(hE:∀l,E.nx (sd.set i<|.own l ds))(hs:AV e (some<|.Name x p) pos.line X.env=pure false:=by rfl)
  (hf:X.fn x=true\/X.env.scope.names.lookup x=some .local:=by first|exact .inl rfl|exact .inr rfl|assumption):PSd1 X sd (.Assign [.Name x p] e pos) E:=.mk λσ F H S=>
 (mK hN hi hx fG hs hf).to ((h σ F H S).imp λv H' ⟨F',S',s',l,xs,e,n,q,rl,no⟩=>⟨_,F',by subst e;exact S'.setO i n q rl no,s',hE l⟩)
noncomputable def Le:List Slot->List Slot->Prop
 |[],[]=>True
 |x::xs,y::ys=>(y=.un\/x=y)/\Le xs ys
 |_,_=>False
theorem Le.refl:∀ (sd:List Slot),Le sd sd
 |[]=>trivial
 |_::xs=>⟨.inr rfl,Le.refl xs⟩
theorem Le.own:∀ {sd sd':List Slot},Le sd sd'->(bV sd').Sublist (bV sd)
 |[],[],_=>List.Sublist.refl _
 |[],_::_,h=>h.elim
 |_::_,[],h=>h.elim
 |x::xs,y::ys,h=>by
  obtain⟨h1,h2⟩:=h;have ih:=Le.own h2
  rcases h1 with rfl|rfl
  ·exact ih.trans<|List.sublist_append_right _ _
  ·exact List.Sublist.append (List.Sublist.refl _) ih
theorem Le.slots{K:aA}{F H:Hp}:∀ {sd sd':List Slot}{σ:St},Le sd sd'->SlotsOk K F H sd σ->SlotsOk K F H sd' σ
 |[],[],_,_,h=>h
 |[],_::_,_,h,_=>h.elim
 |_::_,[],_,h,_=>h.elim
 |x::xs,y::ys,σ,h,q=>by
  obtain⟨h1,h2⟩:=h;obtain⟨o,r,rfl,a,b⟩:=q;refine⟨o,r,rfl, ?_,Le.slots h2 b⟩
  rcases h1 with rfl|rfl
  ·trivial
  ·exact a
theorem StF.le{sd':List Slot}(S:StF K H₀ F H σ sd)(h:Le sd sd'):StF K H₀ F H σ sd':=⟨S.base,S.sub,S.smp,h.slots S.slots,S.nd.sublist h.own⟩
theorem aJr{sd':List Slot}{sts:List BJ}(h:Le sd sd')(q:PSd X sd' sts E):PSd X sd sts E:=.mk λσ F H S=>q σ F H<|S.le h
theorem aBq{F₀:Hp}{sts:List BJ}(s:Same F₀ F)(h:wSs X sts (lft X F E) σ H):wSs X sts (lft X F₀ E) σ H:=
 h.imp (λσ2 H2 ⟨sd2,F2,S2,s2,q2⟩=>⟨sd2,F2,S2,s.trans s2,q2⟩) (λv H2 q2=>q2) (λσ2 H2 ⟨sd2,F2,S2,s2,q2⟩=>⟨sd2,F2,S2,s.trans s2,q2⟩) λσ2 H2 ⟨sd2,F2,S2,s2,q2⟩=>⟨sd2,F2,S2,s.trans s2,q2⟩
theorem fN:∀ (sd:List Slot) (i:Nat),Le sd (sd.set i .un)
 |[],_=>trivial
 |_::xs,0=>⟨.inl rfl,Le.refl xs⟩
 |_::xs,i+1=>⟨.inr rfl,fN xs i⟩
theorem gF:∀ {sd:List Slot}{i:Nat}{l:BF}{z:Slot},(bV sd).Nodup->sd[i]? =some z->l∈fU z->l∉bV (sd.set i .un)
 |[],_,_,_,_,e,_=>by simp at e
 |y::zs,0,l,z,h,e,hl=>by
  have:y=z:=by simpa using e
  subst this;obtain⟨n1,n2,n3⟩:=aY.mp (show(fU y++bV zs).Nodup from h);exact λhm=>n3 l hl l hm rfl
 |y::zs,i+1,l,z,h,e,hl=>by
  have e':zs[i]? =some z:=by simpa using e
  obtain⟨n1,n2,n3⟩:=aY.mp (show(fU y++bV zs).Nodup from h);have ml:l∈bV zs:=cW.mpr ⟨_,aN e',hl⟩;intro hm
  rcases aK.mp (show l∈fU y++bV (zs.set i .un) from hm) with q|q
  ·exact n3 l q l ml rfl
  ·exact gF n2 e' hl q
theorem nJ{i:Nat}{l:BF}(h:(bV sd).Nodup)(e:sd[i]? =some (.own l ds)):l∉bV (sd.set i .un):=gF h e<|bI l
theorem jH{i:Nat}{o:Option V}(h:σ[i]? =some o):σ.set i o=σ:=by obtain⟨hi,e⟩:=aF.mp h;rw[<-e];exact aAQ hi
theorem gS(sd:List Slot)(i:Nat)(x y:Slot):(sd.set i x).set i y=sd.set i y:=by simp
theorem StF.wr{i:Nat}{l:BF}{ds':List D}{xs':List V}(S:StF K H₀ F H σ sd)(hs:sd[i]? =some (.own l ds))(rl:RepL K F ds' xs'):StF K H₀ F (upd H l<|.lst xs') σ (sd.set i<|.own l ds'):=by
 obtain⟨o,h1,h2,n,xs,q,_⟩:=S.slots.get hs;have no:=nJ S.nd hs;have S0:=S.le<|fN sd i;refine⟨S.base,λb u e=> ?_,λb u e=> ?_, ?_, ?_⟩
 ·rw[bD<|bX e n];exact S.sub _ _ e
 ·by_cases h:b=l
  ·subst h;rw[bM] at e;cases e;trivial
  ·rw[bD h] at e;exact S.smp _ _ e
 ·have q1:SlotsOk K F (upd H l<|.lst xs') (sd.set i .un) σ:=S0.slots.mono (Same.refl _) λl' hl=>by
   obtain⟨n',ys,q',_⟩:=S0.slots.owns hl;have hne:l'≠l:=λz=>no<|z▸hl
   exact⟨n',λys e=>by rw[bD hne];exact e⟩
  have q2:=q1.set (z:=.own l ds') (o:=some<|.ref l) ⟨rfl,n,xs',bM,rl⟩ i;rw[gS,jH<|by rw[h1,h2]] at q2;exact q2
 ·have:=gT (z:=Slot.own l ds') i S0.nd λl' e=>by rw[aD.mp e];exact .inl no
  rw[gS] at this;exact this.1
theorem iS(i:Nat){l:BF}{sts:List BJ}(hs:sd[i]? =some (.own l ds))(h:PSd X (sd.set i (.val<|.lst ds)) sts E):PSd X sd sts E:=.mk λσ F H S=>by obtain⟨o,h1,h2,n,xs,q,rl⟩:=S.slots.get hs;have S0:=S.le<|fN sd i;obtain⟨S1,s1⟩:=S0.freeze q n<|nJ S.nd hs;have S2:=S1.set (d:=.lst ds) (v:=.ref l) i (by simp only[Rep];exact⟨l,xs,rfl,bM,rl.mono s1⟩);rw[gS,jH<|by rw[h1,h2]] at S2;exact aBq s1<|h σ _ H S2
theorem lR(i:Nat){x:Str}{p ap cp:Pos}{l:BF}(hs:sd[i]? =some (.own l ds))(hx:PE X (.Name x p) (iX i))(h:PEd X sd e (.val d))(hl:ds.length<=10000)(hE:E.nx (sd.set i (.own l<|ds++[d])))
  (hst:AC (e::[]) X.env=(false,eval e X.env)::AC [] X.env:=by rfl)
  (hm:PE X (.Call (.Attribute (.Name x p) "append" ap) [e] [] cp) (tBM X.K "list" nD (iX i)<|kH (wE X e) sT):=by exact aAT iN kP kQ qI (pv _) (dE fG pa_nil))
  (hsw:AV (.Call (.Attribute (.Name x p) "append" ap) [e] [] cp) none pos.line X.env=pure false:=by rfl):
  PSd1 X sd (.Expr (.Call (.Attribute (.Name x p) "append" ap) [e] [] cp) pos) E:=.mk λσ F H S=>
 (nG hm hsw).to (by
  obtain⟨o,h1,h2,n,xs,q,rl⟩:=S.slots.get hs;refine⟨.ref l,by rw[h1,h2],.inl ⟨rfl,xs,.of q⟩,(h σ F H S).imp λv H1 ⟨F1,S1,s1,q1⟩=> ?_⟩;obtain⟨o',h1',h2',n',xs',q',rl'⟩:=S1.slots.get hs
  exact⟨l,xs',v,rfl,rfl,q',by rw[rl'.len];exact eV hl,_,F1,S1.wr hs (rl'.app (.one q1)),s1,hE⟩)
theorem uP(i:Nat){x:Str}{p ap cp:Pos}{l:BF}{ds2:List D}(hs:sd[i]? =some (.own l ds))(hx:PE X (.Name x p) (iX i))(h:PEd X sd e (.val<|.lst ds2))(hl:ds.length+ds2.length<=10000)(hE:E.nx (sd.set i (.own l<|ds++ds2)))
  (hst:AC (e::[]) X.env=(false,eval e X.env)::AC [] X.env:=by rfl)
  (hm:PE X (.Call (.Attribute (.Name x p) "extend" ap) [e] [] cp) (tBM X.K "list" aBO (iX i)<|kH (wE X e) sT):=by exact aAT iN PySem.F.slot_list_extend PySem.F.type_list_extend aCv (pv _) (dE fG pa_nil))
  (hsw:AV (.Call (.Attribute (.Name x p) "extend" ap) [e] [] cp) none pos.line X.env=pure false:=by rfl):
  PSd1 X sd (.Expr (.Call (.Attribute (.Name x p) "extend" ap) [e] [] cp) pos) E:=.mk λσ F H S=>
 (nG hm hsw).to (by
  obtain⟨o,h1,h2,n,xs,q,rl⟩:=S.slots.get hs;refine⟨.ref l,by rw[h1,h2],.inl ⟨rfl,xs,.of q⟩,(h σ F H S).imp λv H1 ⟨F1,S1,s1,q1⟩=> ?_⟩;obtain⟨o',h1',h2',n',xs',q',rl'⟩:=S1.slots.get hs;simp only[ResOk,Rep] at q1;obtain⟨b,zs,rfl,hb,rb⟩:=q1
  exact⟨l,b,xs',zs,rfl,rfl,q',S1.sub _ _ hb,by rw[rl'.len,rb.len];exact dC (eV hl),_,F1,S1.wr hs (rl'.app rb),s1,hE⟩)
noncomputable def spC(K:aA)(n:Nat)(C:List D->R->Prop):Sp:=λvs H Q _=>vs.length=n/\Smp H/\∃ds r,RepL K H ds vs/\C ds r/\∀v H',aDA K H H' r v->Q v H'
noncomputable def spF(K:aA)(n:Nat)(C:List D->R->Prop):Sp:=λvs H Q _=>vs.length=n/\Smp H/\∃F ds r,Same F H/\RepL K F ds vs/\C ds r/\∀v F2 F3 H',Same F F2->Same F2 F3->Same F3 H'->Same H H'->Smp H'->(∀b o,H b=some o->F b=none->F3 b=none)->ResOk K F2 F3 [] r v->Q v H'
noncomputable def pU(F H:Hp):Hp:=λb=>match F b with
 |some o=>some o
 |none=>H b
theorem oQ:Same F (pU F H):=λb o e=>by unfold pU;rw[e]
theorem pZ{b:BF}(h:F b=none):pU F H b=H b:=by unfold pU;rw[h]
theorem FnOk.framed{P:AF}{w:AM}{mg:Str->Option BD}{base:BH}{k n:Nat}{f:BF}{fd:AX}{ps:List Str}{C:List D->R->Prop}(G:FnOk P w K mg base CX0 k f fd ps (spC K n C)):FnOk P w K mg base CX0 k f fd ps (spF K n C):=by
 refine⟨λvs H Q E h=> ?_,λA outer s H args us vs Q E hr e0 hb rv h=> ?_⟩
 ·obtain⟨hl,sm,F,ds,r,sF,rl,c,_⟩:=h;exact G.len vs F (λ_ _=>True) E ⟨hl,sm.sub sF,ds,r,rl,c,λ_ _ _=>trivial⟩
 ·obtain⟨hl,sm,F,ds,r,sF,rl,c,q⟩:=h;have e1:aIg P w K mg base A outer s F:=⟨e0.frames,e0.mod,λb o e=>⟨(e0.bs b o e).1,sF.free (e0.bs b o e).2⟩,e0.bsz,e0.funs,λb hb=>sF.free<|e0.frf b hb,λb o e=>(e0.hok b o<|sF b o e).smp (sm b o<|sF b o e),e0.bare⟩;refine Az (G.run A outer s F args us vs (λv F3=>aDA K F F3 r v) E hr e1 hb rv ⟨hl,sm.sub sF,ds,r,rl,c,λv H' z=>z⟩) λrr s' hrr=> ?_
  cases rr with
  |error e=>exact hrr
  |ok fl=>
   cases fl with
   |ret u=>
    obtain⟨v,F3,ho,ha,un,hk,ru,F2,s1,s2,sm3,res⟩:=hrr
    have keepF:∀b o,H b=some o->F b=none->F3 b=none:=λb o e n=>by
     have lt:=e0.hok.lt e;cases g:s.heap.get? b with
     |none=>
      exfalso;have ob:=e0.hok b o e;have z:=sm b o e;cases o with
      |lst xs=>obtain⟨_,_,_,_,g'⟩:=ob;rw[g] at g';cases g'
      |tup xs=>obtain⟨_,_,_,oo,g',_⟩:=ob;rw[g] at g';cases g'
      |dK kvs=>obtain⟨_,_,_,_,oo,_,_,g',_⟩:=ob;rw[g] at g';cases g'
      |frz o2 u2=>obtain⟨g',_⟩:=ob;rw[g] at g';cases g'
      |ext φ=>obtain⟨_,⟨oo,g'⟩,_⟩:=ob;rw[g] at g';cases g'
      |_=>exact z
     |some ob=>exact un.free b ob g n<|by simp
    have keepO:∀b o,H b=some o->F b=none->∀ob,s.heap.get? b=some ob->s'.heap.get? b=some ob:=λb o e n ob g=>un.keep b ob g n (λhb=>by have:=e0.frf b hb;rw[e] at this;cases this)<|by simp
    have sH:Same H (pU F3 H):=λb o e=>by
     cases g:F b with
     |none=>rw[pZ<|keepF b o e g];exact e
     |some o'=>have:=sF b o' g;rw[e] at this;cases this;exact oQ _ _ (s2 _ _<|s1 _ _ g)
    have smM:Smp (pU F3 H):=λb o e=>by
     cases g:F3 b with
     |some o'=>have:=oQ (H:=H) b o' g;rw[e] at this;cases this;exact sm3 b o g
     |none=>rw[pZ g] at e;exact sm b o e
    refine⟨v,pU F3 H,ho,ha,⟨λb o g n hb hx=>un.keep b o g (sF.free n) hb hx,λb o g n hb hx=>un.slot b o g (sF.free n) hb hx,λb o g n hx=> ?_,un.there,λb xs e=>sH _ _ e,λb o u e=>sH _ _ e,λb ps e=>⟨#[],by rw[sH _ _ e];simp⟩⟩,λb o e=> ?_,ru, ?_⟩
    ·rw[pZ<|un.free b o g (sF.free n) hx];exact n
    ·have z:=smM b o e;cases g:F3 b with
     |some o'=>have:=oQ (H:=H) b o' g;rw[e] at this;cases this;exact(hk b o g).smp z
     |none=>
      rw[pZ g] at e
      have n:F b=none:=by
       cases g2:F b with
       |none=>rfl
       |some o2=>rw[s2 _ _<|s1 _ _ g2] at g;cases g
      have st:=(e0.hok b o e).smp (F:=λ_=>none) z
      have:ObjOk P w (fun _=>none) s'.heap b o:=st.stay (fun b2 u hb2 gg=>by
       rcases hb2 with rfl|hb2
       ·exact keepO _ o e n u gg
       ·cases hb2) (λb2 hb2=>nomatch hb2) λb2 xs hb2=>nomatch hb2
      exact this.smp z
    ·exact q v F2 F3 (pU F3 H) s1 s2 oQ sH smM keepF res
   |_=>exact hrr
structure bU(P:AF)(w:AM)(K:aA)(mg:Str->Option BD)(base:BH)(x:Str)(k n:Nat)(C:List D->R->Prop):Prop where
 ex:∃ (f:BF) (fd:AX) (ps:List Str),mg x=some (.ref f)/\eO K (.ref f)=true/\Binds K fd ps []/\FnOk P w K mg base CX0 k f fd ps (spC K n C)
theorem aHD{x:Str}{p:Pos}{k n:Nat}{C:List D->R->Prop}(G:bU X.prog X.w X.K X.mg X.base x k n C)(hr:Room k X.A)(hg:Gl X x)(ha:PAd X sd (e::es) (ds.map R.val))(hc:C ds r)(hb:match r with | .bor _=>False|_=>True)(hn:ds.length=n)
  (hdb:(x==("__debug__":Str))=false:=by decide) (he:AC (e::es) X.env=(false,eval e X.env)::AC es X.env:=by rfl) (hpl:(Ae pos<|AC es X.env).any (·.1)=false:=by rfl):
  PEd X sd (.Call (.Name x p) (e::es) [] pos) r:=.mk λσ F H S=>by
 obtain⟨f,fd,ps,hm,hk,bd,G⟩:=G.ex;refine(aBT (FnOk.framed G) hr hg hm hk bd .nil aID xQ hdb he hpl).to<|(ha σ F H S).imp λvs H1 ⟨F1,S1,s1,q1⟩=> ?_;have rl:=q1.vals;refine⟨by rw[bZ,rl.len];exact hn,S1.smp,F1,ds,r,S1.sub,by rw[bZ];exact rl,hc,λv F2 F3 H' s2 s3 s4 sH sm kp res=> ?_⟩
 have no:∀l,l∈bV sd->F2 l=none/\F3 l=none:=λl hl=>by obtain⟨n1,xs,q,_⟩:=S1.slots.owns hl;have n3:=kp l _ q n1;exact⟨s3.free n3,n3⟩
 refine⟨F2,⟨λb o e=>s2 _ _<|S1.base _ _ e,s3.trans s4,sm,S1.slots.mono s2 λl hl=>⟨(no l hl).1,λys e=>sH _ _ e⟩,S1.nd⟩,s1.trans s2, ?_⟩;cases r with
 |val d=>exact res
 |own ds'=>obtain⟨l,xs,e,n,q,rl',_⟩:=res;exact⟨l,xs,e,n,s4 _ _ q,rl',λhl=>by rw[(no l hl).2] at q;cases q⟩
 |pr d ls=>obtain⟨t,l,xs,y,e,f,g,n,q,rl',_⟩:=res;exact⟨t,l,xs,y,e,f,g,n,s4 _ _ q,rl',λhl=>by rw[(no l hl).2] at q;cases q⟩
 |ox G=>obtain⟨ls,nd,h,g⟩:=res;refine⟨ls,nd,λl hl=> ?_,λF' H'' sF k=>g F' H'' sF λl hl ob q=>k l hl ob<|s4 _ _ q⟩;obtain⟨n,⟨ob,q,w⟩,_⟩:=h l hl;exact⟨n,⟨ob,s4 _ _ q,w⟩,λhm=>by rw[(no l hm).2] at q;cases q⟩
 |bor ds'=>exact hb.elim
noncomputable def R.toD:R->D
 |.val d=>d
 |.own ds=>.lst ds
 |.bor ds=>.lst ds
 |.pr d ls=>.tup [d,.lst ls]
 |.ox _=>.non
noncomputable def init(n:Nat)(ds:List D):List Slot:=ds.map Slot.val++eW (n-ds.length) .un
theorem zD{K:aA}{F H:Hp}:∀n:Nat,SlotsOk K F H (eW n .un) (eW n none)
 |0=>rfl
 |n+1=>⟨none,eW n none,rfl,trivial,zD n⟩
theorem lJ{K:aA}{F H:Hp}{m n:Nat}:∀ {ds:List D}{vs:List V},RepL K F ds vs->SlotsOk K F H (ds.map Slot.val++eW n .un) (vs.map some++eW n none)
 |[],vs,r=>by simp only[RepL] at r;subst r;exact zD n
 |d::ds,vs,r=>by obtain⟨y,ys,rfl,a,rl⟩:=r.uncons;exact⟨some y,_,rfl,⟨y,rfl,a⟩,lJ (m:=m) rl⟩
theorem lQ(n:Nat):∀ds:List D,bV (ds.map Slot.val++eW n .un)=[]
 |[]=>by
  induction n with
  |zero=>rfl
  |succ n ih=>exact ih
 |_::ds=>lQ n ds
theorem aFH{P:AF}{w:AM}{mg:Str->Option BD}{base:BH}{x qual:Str}{f:BF}{fd:AX}{N ps:List Str}{k:Nat}{C:List D->R->Prop}(F:Fun K x qual st f fd)(S:jD N ps (bF st))
  (body:∀ (cdv:BD) (A:BG) (outer:List Env) (s:BE) (H:Hp) (E:XK),Room k (A.deeper (As qual (bF st) s.heap.objs.size f cdv))→∀ds r,ds.length=ps.length→C ds r→
   PSd (jL CX0 P w K mg base N qual (bF st) f cdv A outer s H E).nox (init N.length ds) (dY st) {nx:=λ_=>r=.val .non,rt:=λr'=>r'=r}):FnOk P w K mg base CX0 (k+1) f fd ps (spC K ps.length C):=by
 refine F.ok S (λvs H Q E h=>h.1) λcdv A outer s H vs Q E hr h=> ?_
 obtain⟨hl,sm,ds,r,rl,c,q⟩:=h;have hds:ds.length=ps.length:=by rw[<-rl.len];exact hl
 refine⟨_,pQ, ?_⟩;have hlen:N.length-vs.length=N.length-ds.length:=by rw[rl.len]
 have S0:StF K H H H (L2.start N vs) (init N.length ds):=by
  refine⟨Same.refl _,Same.refl _,sm, ?_, ?_⟩
  ·unfold L2.start init;rw[hlen];exact lJ (m:=0) rl
  ·unfold init;rw[lQ];exact cH
 refine(body cdv A outer s H E hr ds r hds c (L2.start N vs) H H S0).imp ?_ ?_ (λ_ _ ⟨_,_,_,_,z⟩=>z) λ_ _ ⟨_,_,_,_,z⟩=>z
 ·rintro σ' H' ⟨sd',F',S',s',e⟩;have e:r=.val .non:=e;subst e;exact q .non H' ⟨F',S'.base,S'.sub,S'.smp,by simp only[ResOk,Rep]⟩
 ·rintro v H' ⟨r',ro,e⟩;have e:r'=r:=e;subst e;exact q v H' ro
theorem aIY{P:AF}{w:AM}{mg:Str->Option BD}{base:BH}{x qual:Str}{f:BF}{fd:AX}{N ps:List Str}{k:Nat}{C:List D->R->Prop}(F:Fun K x qual st f fd)(S:jD N ps (bF st))
  (hm:mg x=some (.ref f)) (hb:∀ (kV doc pm:BD) (an:Option BF) (cdv ct:BD) (us:List BD),us.length=ps.length->bindArgs (dI x qual (gL st) (dY st) (bF st) .none kV doc pm an cdv ct) ⟨us,[]⟩=pure (ps.zip us))
  (body:∀ (cdv:BD) (A:BG) (outer:List Env) (s:BE) (H:Hp) (E:XK),Room k (A.deeper (As qual (bF st) s.heap.objs.size f cdv))→∀ds r,ds.length=ps.length→C ds r→
   PSd (jL CX0 P w K mg base N qual (bF st) f cdv A outer s H E).nox (init N.length ds) (dY st) {nx:=λ_=>r=.val .non,rt:=λr'=>r'=r}):bU P w K mg base x (k+1) ps.length C:=
 ⟨f,fd,ps,hm,F.kp,F.binds hb,aFH F S body⟩
variable {tg iter:Expr}
def ItD(K:aA)(F₁:Hp)(P:Hp->Hp->Prop)(J:It)(ds:List D):Prop:=∀ (F H:Hp),Same F₁ F->Same F H->Smp H->P F H->∀i,(i<ds.length->J.go i H)/\(ds.length<=i->J.stop i H)/\
 ∀x H' d,ds[i]? =some d->J.yld i H x H'->∃F',Same F F'/\Rep K F' d x/\∀H₀ σ sd,StF K H₀ F H σ sd->StF K H₀ F' H' σ sd
abbrev PT0:Hp->Hp->Prop:=λ_ _=>True
structure PId(X:Cx)(sd:List Slot)(P:Hp->Hp->Prop)(tg iter:Expr)(ds:List D):Prop where
 run:∀ (σ:St) (F H:Hp),StF X.K X.B₀ F H σ sd->
 wI X tg iter σ H λJ H1=>∃F1,StF X.K X.B₀ F1 H1 σ sd/\Same F F1/\ItD X.K F1 P J ds
instance {X:Cx}{sd:List Slot}{P:Hp→Hp→Prop}{tg iter:Expr}{ds:List D}:CoeFun (PId X sd P tg iter ds) (fun _=>∀ (σ:St) (F H:Hp),StF X.K X.B₀ F H σ sd→
 wI X tg iter σ H λJ H1=>∃F1,StF X.K X.B₀ F1 H1 σ sd/\Same F F1/\ItD X.K F1 P J ds):=⟨PId.run⟩
theorem _root_.L2.PI.to{wi:TI}{R:It->Hp->Prop}(h:PI X tg iter wi)(q:wi σ H R):wI X tg iter σ H R:=λpins s I=>h pins s σ H R I q
theorem iC(h:PEd X sd iter (.val<|.lst ds)):PId X sd PT0 tg iter ds:=.mk λσ F H S=>
 (aHB fG).to ((h σ F H S).imp fun v H1 ⟨F1,S1,s1,q1⟩=>by
  simp only[ResOk,Rep] at q1;obtain⟨l,xs,rfl,hl,rl⟩:=q1;refine⟨l,rfl,⟨xs,.of<|S1.sub _ _ hl⟩,F1,S1,s1,λF' H' sF sH sm _ i=> ?_⟩;have hl':=sH _ _<|sF _ _ hl;refine⟨λhi=>⟨xs,xs[i]'(by rw[rl.len];exact hi),.of hl',by simp[rl.len,hi]⟩,λhi=>⟨xs,.of hl',by rw[rl.len];exact hi⟩,λx H2 d hd y=> ?_⟩;obtain⟨rfl,y⟩:=y;obtain⟨v,hv,rv⟩:=rl.get hd;have:=y xs<|.of hl';rw[hv] at this;cases this
  exact⟨F',Same.refl _,rv.mono sF,λ_ _ _ S=>S⟩)
theorem sG(h:PEd X sd iter (.val<|.tup ds)):PId X sd PT0 tg iter ds:=.mk λσ F H S=>
 (aJw fG).to ((h σ F H S).imp fun v H1 ⟨F1,S1,s1,q1⟩=>by
  simp only[ResOk,Rep] at q1;obtain⟨l,xs,rfl,hl,rl⟩:=q1;refine⟨l,rfl,⟨xs,.of<|S1.sub _ _ hl⟩,F1,S1,s1,λF' H' sF sH sm _ i=> ?_⟩;have hl':=sH _ _<|sF _ _ hl;refine⟨λhi=>⟨xs,xs[i]'(by rw[rl.len];exact hi),.of hl',by simp[rl.len,hi]⟩,λhi=>⟨xs,.of hl',by rw[rl.len];exact hi⟩,λx H2 d hd y=> ?_⟩;obtain⟨rfl,y⟩:=y;obtain⟨v,hv,rv⟩:=rl.get hd;have:=y xs<|.of hl';rw[hv] at this;cases this
  exact⟨F',Same.refl _,rv.mono sF,λ_ _ _ S=>S⟩)
noncomputable def fZ(lo:Int)(n:Nat):List D:=(bQ n).map λ(k:Nat)=>D.int<|lo+(k:Int)
theorem fQ(lo:Int)(n:Nat):(fZ lo n).length=n:=by simp[fZ]
theorem gQ{lo:Int}{n i:Nat}(h:(fZ lo n)[i]? =some d):i<n/\d=.int (lo+(i:Int)):=by
 unfold fZ at h;rw[bB] at h
 by_cases hi:i<n
 ·rw[oM hi] at h;exact⟨hi,(bY.inj h).symm⟩
 ·rw[gN<|by simpa using hi] at h;cases h
theorem aCI{F₁:Hp}{lo:Int}{n:Nat}:ItD K F₁ PT0 (Itr lo n) (fZ lo n):=λF H _ _ _ _ i=>by refine⟨λhi=>by rw[fQ] at hi;exact hi,λhi=>by rw[fQ] at hi;exact hi,λx H' d hd y=> ?_⟩;obtain⟨rfl,rfl⟩:=y;obtain⟨_,rfl⟩:=gQ hd;exact⟨F,Same.refl _,by simp only[Rep],λ_ _ _ S=>S⟩
theorem gW{p:Pos}{n:Nat}(hg:Gl X "range")(hm:X.mg "range"=none)(h:PEd X sd a (.val<|.int (n:Int)))(hn:(n:Int)<2^62)(hs:AC [a] X.env=[(false,eval a X.env)]:=by rfl):PId X sd PT0 tg (.Call (.Name "range" p) [a] [] pos) (fZ 0 n):=.mk λσ F H S=>
 (aCZ hg hm xQ hs).to ((aG h aW trivial hs σ F H S).imp fun vs H1 ⟨F1,S1,s1,q1⟩=>by
  cases q1 with
  |cons q1 q2=>
   cases q2;simp only[ResOk,Rep] at q1;subst q1
   exact⟨(n:Int),rfl,by omega,hn,F1,S1,s1,by rw[dM];exact aCI⟩)
structure PGd(X:Cx)(sd:List Slot)(tg:Expr)(d:D)(sd':List Slot):Prop where
 run:∀ (σ:St) (F H:Hp) (v:V),StF X.K X.B₀ F H σ sd->Rep X.K F d v->wG X tg v σ H λσ' H'=>∃F',StF X.K X.B₀ F' H' σ' sd'/\Same F F'
instance {X:Cx}{sd:List Slot}{tg:Expr}{d:D}{sd':List Slot}:CoeFun (PGd X sd tg d sd') (λ_=>∀ (σ:St) (F H:Hp) (v:V),StF X.K X.B₀ F H σ sd->Rep X.K F d v->wG X tg v σ H λσ' H'=>∃F',StF X.K X.B₀ F' H' σ' sd'/\Same F F'):=⟨PGd.run⟩
theorem _root_.L2.PG.to{t:TG}{Q:St->Hp->Prop}(h:PG X tg t)(q:t v σ H Q):wG X tg v σ H Q:=λpins s u I r=>h pins s σ H v u Q I r q
theorem aDS(j:Nat)(h:PG X tg (aAV j)):PGd X sd tg d (sd.set j<|.val d):=.mk λσ F H v S q=>h.to ⟨F,S.set j q,Same.refl _⟩
noncomputable def gNs:List Nat->TGs
 |[]=>aLO
 |j::js=>aIG (aAV j)<|gNs js
noncomputable def aBt:List Slot->List Nat->List D->List Slot
 |sd,j::js,d::ds=>aBt (sd.set j<|.val d) js ds
 |sd,_,_=>sd
theorem aFn{K:aA}{H₀ F H:Hp}{Q:St->Hp->Prop}:∀ {js:List Nat}{ds:List D}{vs:List V}{σ:St}{sd:List Slot},js.length=ds.length->RepL K F ds vs->StF K H₀ F H σ sd->(∀σ',StF K H₀ F H σ' (aBt sd js ds)->Q σ' H)->gNs js vs σ H Q
 |[],[],vs,σ,sd,_,r,S,k=>by simp only[RepL] at r;exact⟨r,k σ S⟩
 |j::js,d::ds,vs,σ,sd,hl,r,S,k=>by obtain⟨y,ys,rfl,q,rl⟩:=r.uncons;exact⟨y,ys,rfl,aFn (by simpa using hl) rl (S.set j q) k⟩
 |[],_::_,_,_,_,hl,_,_,_=>by simp at hl
 |_::_,[],_,_,_,hl,_,_,_=>by simp at hl
theorem nH{k:Nat}{js:List Nat}(hc:X.calm=true)(h:PGs X es (gNs js))(hl:js.length=ds.length)(hn:(assignEach es X.env).length=ds.length)(hst:(assignEach es X.env).findIdx? (·.1)=none:=by rfl):PGd X sd (.Tuple es k pos) (.tup ds) (aBt sd js ds):=.mk λσ F H v S q=>
 (aKm hc h hn hst).to (by
  simp only[Rep] at q;obtain⟨a,xs,rfl,ha,rl⟩:=q
  exact⟨a,xs,rfl,.of (S.sub _ _ ha),rl.len,aFn hl rl S λσ' S'=>⟨F,S',Same.refl _⟩⟩)
theorem sI{body:List BJ}{P:Hp->Hp->Prop}(Sd Td:Nat->List Slot)(hi:PId X sd P tg iter ds)(h0:Le sd (Sd 0))(hg:∀k d,ds[k]? =some d->PGd X (Sd k) tg d (Td k))
  (hb:∀k d,ds[k]? =some d->PSd X (Td k) body {E with nx:=λsd'=>Le sd' (Sd<|k+1),ct:=λsd'=>Le sd' (Sd<|k+1),bk:=E.nx}) (hE:E.nx (Sd ds.length)) (hP:∀k σ F H,StF X.K X.B₀ F H σ (Sd k)->P F H:=by intros;trivial)
  (hc:X.calm=true:=by rfl) (hp:PassesOwn (AH X.prog X.w) X.A X.env X.xe:=by exact PassesOwn.never) (hs:∀x,Ao iter X.env x=pure x:=by intro _;rfl):PSd1 X sd (.For tg iter body [] pos) E:=.mk λσ F H S=>
 (aFt hp hc aLJ aLU pQ hs).to (by
  intro pins s I;refine thn (hi σ F H S pins s I) λv s1 h1=>thn h1 λitv s2 h2=> ?_
  obtain⟨it,fp,tn,J,H2,e,I2,T,st2,f2,F1,S1,s1',itd⟩:=h2;refine⟨it,fp,tn,J,H2,e,I2,T,st2,f2, ?_⟩;refine⟨λi m σ' H'=>m=ds.length-i/\i<=ds.length/\∃F',StF X.K X.B₀ F' H' σ' (Sd i)/\Same F1 F',⟨ds.length,by simp,bJ _,F1,S1.le h0,Same.refl _⟩, ?_⟩;rintro i m σ' H' ⟨rfl,hil,F',S',s'⟩;obtain⟨g1,g2,g3⟩:=itd F' H' s' S'.sub S'.smp (hP _ _ _ _ S') i
  by_cases hlt:i<ds.length
  ·refine .inr ⟨g1 hlt,λσ2 H2=>∃F2,StF X.K X.B₀ F2 H2 σ2 (Sd<|i+1)/\Same F1 F2,λσ2 H2 ⟨F2,S2,s2⟩=>⟨ds.length-(i+1),by omega,rfl,hlt,F2,S2,s2⟩,λx H2 y=> ?_⟩;have hd:ds[i]? =some ds[i]:=by simp[hlt]
   obtain⟨F2,s2,rp,up⟩:=g3 x H2 ds[i] hd y;refine(hg i _ hd σ' F2 H2 x (up _ _ _ S') rp).imp λσ3 H3 ⟨F3,S3,s3⟩=> ?_
   have base:Same F1 F3:=(s'.trans s2).trans s3;refine(hb i _ hd σ3 F3 H3 S3).imp ?_ ?_ ?_ ?_
   ·rintro σ4 H4 ⟨sd4,F4,S4,s4,le⟩;exact⟨F4,S4.le le,base.trans s4⟩
   ·exact λv H4 q=>q
   ·rintro σ4 H4 ⟨sd4,F4,S4,s4,q⟩;exact⟨sd4,F4,S4,(s1'.trans base).trans s4,q⟩
   ·rintro σ4 H4 ⟨sd4,F4,S4,s4,le⟩;exact⟨F4,S4.le le,base.trans s4⟩
  ·have e:i=ds.length:=by omega
   subst e
   exact .inl ⟨g2 (aO _),Sd ds.length,F',S',s1'.trans s',hE⟩)
theorem Inv.retrack{pins:List (BF×BI)}{σ:St}{H F:Hp}{s s':BE}(I0:Inv X pins σ H s):∀ (ls:List BF),ls.Nodup->(∀l∈ls,F l=none/\(∃xs,H l=some xs/\Wr l xs)/\∀o,s.heap.get? l=some o->s'.heap.get? l=some o)->Inv X pins σ F s'->Inv X pins σ (λb=>if b∈ls then H b else F b) s'
 |[],_,_,I=>by simpa using I
 |l::ls,nd,h,I=>by
  obtain⟨nl,nd'⟩:=bA.mp nd;have J:=Inv.retrack I0 ls nd' (λl' hl=>h l'<|aC _ hl) I;obtain⟨n,⟨xs,hx,wx⟩,kp⟩:=h l aE
  have e:(λb=>if b∈l::ls then H b else F b)=upd (λb=>if b∈ls then H b else F b) l xs:=by
   funext b;unfold upd
   by_cases hb:b=l
   ·subst hb;simp[hx]
   ·simp[hb]
  rw[e];have n':(λb=>if b∈ls then H b else F b) l=none:=by simp[nl,n]
  have ob:=I0.hok l _ hx;clear e;generalize (λb=>if b∈ls then H b else F b)=G at J n' ⊢;refine⟨J.ok,J.os,J.bare,⟨J.base.keep,J.base.slot,λb u g n0 hx0=> ?_,J.base.there,λb ys g=> ?_,λb u ys g=> ?_,λb ps g=> ?_⟩,J.loc,J.cell, ?_,λx c g=> ?_,λp hp=> ?_,J.hok.track n' ?_,J.len⟩
  ·have hb:b≠l:=λq=>by subst q;have:=I0.base.free b u g n0 hx0;rw[hx] at this;cases this
   rw[bD hb];exact J.base.free b u g n0 hx0
  ·have q:=J.base.tups b ys g;rw[bD<|bX q n'];exact q
  ·have q:=J.base.frzs b u ys g;rw[bD<|bX q n'];exact q
  ·obtain⟨m,q⟩:=J.base.tbls b ps g;exact⟨m,by rw[bD<|bX q n'];exact q⟩
  ·rw[bD λq=>by have:=I0.free;rw[q,hx] at this;cases this];exact J.free
  ·rw[bD λq=>by have:=I0.freeC x c g;rw[q,hx] at this;cases this];exact J.freeC x c g
  ·obtain⟨g,n0,rr⟩:=J.pin p hp;refine⟨g, ?_,rr⟩;rw[bD λq=>by have:=(I0.pin p hp).2.1;rw[q,hx] at this;cases this];exact n0
  ·cases xs with
   |lst xs=>obtain⟨z,its,nn,rv,ho⟩:=ob;exact⟨z,its,nn,rv,kp _ ho⟩
   |dK kvs=>obtain⟨z,y,vs,r,o,es,ep,e,c⟩:=ob;exact⟨z,y,vs,r,o,es,ep,kp _ e,c⟩
   |ext φ=>obtain⟨h1,⟨o1,h2⟩,h3⟩:=ob;exact⟨h3 _ _ h1 kp,⟨o1,kp _ h2⟩,h3⟩
   |_=>exact wx.elim
theorem aJd{P:AF}{w:AM}{h:BH}{l:BF}{xs:HO}(wx:Wr l xs)(q:H l=some xs)(ok:ObjOk P w H h l xs):∃ys o,H l=some ys/\Wr l ys/\h.get? l=some o/\∀v,o.data≠ .cell v:=by
 cases xs with
 |lst xs=>obtain⟨_,its,nn,_,ho⟩:=ok;exact⟨_,_,q,trivial,ho,λv z=>by cases z⟩
 |dK kvs=>obtain⟨_,_,_,_,o,es,ep,e,_,d,_⟩:=ok;exact⟨_,_,q,trivial,e,λv z=>by rw[d] at z;cases z⟩
 |ext φ=>obtain⟨o,e,n⟩:=id wx;subst e;exact⟨_,o,q,wx,ok.1,n⟩
 |_=>exact wx.elim
theorem aEe(S:StF X.K X.B₀ F H σ sd)(hr:match r with | .bor _=>False|_=>True)(h:wE X e σ F λv F3=>aDA X.K F F3 r v):wE X e σ H λv H'=>∃F',StF X.K X.B₀ F' H' σ sd/\Same F F'/\ResOk X.K F' H' sd r v:=λpins s I=>by
 have I1:Inv X pins σ F s:=I.less S.sub S.base<|S.smp.sub S.sub
 have ob:∀l∈bV sd,∃xs o,H l=some xs/\Wr l xs/\s.heap.get? l=some o/\∀v,o.data≠ .cell v:=λl hl=>by obtain⟨n,xs,q,wx⟩:=S.slots.owns hl;exact aJd wx q<|I.hok l _ q
 have I2:Inv X (pins++lW (bV sd) s.heap) σ F s:=I1.pins_of λp hp=>(aK.mp hp).elim (λz=>I1.pin p<|aH _ z) λz=>by
  obtain⟨hb,g⟩:=qQ z;obtain⟨xs,o,q,_,ho,hc⟩:=ob p.1 hb;rw[g] at ho;cases ho;refine⟨g,(S.slots.owns hb).1,λy=> ?_,λy=> ?_,hc⟩
  ·have:=I.free;rw[<-y,q] at this;cases this
  ·obtain⟨_,o',ho',_⟩:=I.ok.funs.mem y;have:=I.base.free p.1 o' ho' (I.ok.frf p.1 y) λz=>I.ok.exfs p.1 z y
   rw[q] at this;cases this
 refine thn (h _ s I2) λu s' ⟨v,F3,I3,rv,F2,s1,s2,sm3,res⟩=> ?_
 have kp:∀l∈bV sd,F3 l=none/\(∃xs,H l=some xs/\Wr l xs)/\∀o,s.heap.get? l=some o->s'.heap.get? l=some o:=λl hl=>by obtain⟨xs,o,q,wx,ho,_⟩:=ob l hl;have:=I3.pin (l,o)<|aH _ (aH _<|iI hl ho);exact⟨this.2.1,⟨xs,q,wx⟩,λo' g=>by rw[ho] at g;cases g;exact this.1⟩
 have I4:=Inv.retrack I (bV sd) S.nd kp I3.unpinned;refine⟨v,_,I4,rv,F2,⟨λb o g=>s1 _ _<|S.base _ _ g,λb o g=> ?_,λb o g=> ?_,S.slots.mono s1 λl hl=>⟨s2.free (kp l hl).1,λxs g=>by simpa[hl] using g⟩,S.nd⟩,s1, ?_⟩
 ·have g3:=s2 _ _ g;have:b∉bV sd:=λhb=>by rw[(kp b hb).1] at g3;cases g3
  simp[this,g3]
 ·by_cases hb:b∈bV sd
  ·simp[hb] at g;exact S.smp _ _ g
  ·simp[hb] at g;exact sm3 _ _ g
 ·cases r with
  |val d=>exact res
  |own ds'=>
   obtain⟨l,xs,e,n,q,rl',_⟩:=res;have:l∉bV sd:=λhl=>by rw[(kp l hl).1] at q;cases q
   exact⟨l,xs,e,n,by simp[this,q],rl',this⟩
  |pr d ls=>
   obtain⟨t,l,xs,y,e,f,g,n,q,rl',_⟩:=res;have:l∉bV sd:=λhl=>by rw[(kp l hl).1] at q;cases q
   exact⟨t,l,xs,y,e,f,g,n,by simp[this,q],rl',this⟩
  |ox G=>
   obtain⟨ls,nd,h,g⟩:=res
   have no:∀l∈ls,l∉bV sd:=λl hl hm=>by obtain⟨n,⟨ob,q,w⟩,_⟩:=h l hl;rw[(kp l hm).1] at q;cases q
   refine⟨ls,nd,λl hl=> ?_,λF' H' sF k=>g F' H' sF λl hl ob q=>k l hl ob<|by simp[no l hl,q]⟩;obtain⟨n,⟨ob,q,w⟩,_⟩:=h l hl;exact⟨n,⟨ob,by simp[no l hl,q],w⟩,no l hl⟩
  |bor ds'=>exact hr.elim
noncomputable def aIs:Option Slot->Slot
 |some (.val d)=>.val d
 |some (.ox [] G)=>.ox [] G
 |_=>.un
noncomputable def kA(cap:List (Option Nat))(sd:List Slot):List Slot:=cap.map λo=>match o with
 |none=>.un
 |some k=>aIs sd[k]?
theorem yC{K:aA}{F H F' H':Hp}{σ:St}(h:SlotsOk K F H sd σ)(s:Same F F'):∀cap:List (Option Nat),SlotsOk K F' H' (kA cap sd) (uB cap σ)
 |[]=>rfl
 |o::cap=>by
  refine⟨_,_,rfl, ?_,yC h s cap⟩;cases o with
  |none=>trivial
  |some k=>
   show fY K F' H' (aIs sd[k]?) _;cases q:sd[k]? with
   |none=>trivial
   |some z=>
    cases z with
    |un=>trivial
    |own l ds=>trivial
    |od l ks ds=>trivial
    |ox ls G=>
     cases ls with
     |cons a ls=>trivial
     |nil=>obtain⟨o,h1,v,h2,h3,h4⟩:=h.get q;subst h2;exact⟨v,by simp[h1],λl hl=>(nomatch hl),λF2 H2 s2 _=>h4 F2 H2 (s.trans s2) λl hl=>(nomatch hl)⟩
    |gh d G=>trivial
    |val d=>obtain⟨o,h1,v,h2,rv⟩:=h.get q;subst h2;exact⟨v,by simp[h1],rv.mono s⟩
theorem oH:∀ (cap:List (Option Nat)) (sd:List Slot),bV (kA cap sd)=[]
 |[],_=>rfl
 |o::cap,sd=>by
  have ih:=oH cap sd;cases o with
  |none=>exact ih
  |some k=>
   show bV (aIs sd[k]? ::kA cap sd)=[];cases q:sd[k]? with
   |none=>exact ih
   |some z=>
    cases z with
    |ox ls G=>cases ls<;>exact ih
    |_=>exact ih
noncomputable def unS:Slot->Slot
 |.own _ _=>.un
 |.od _ _ _=>.un
 |.ox [] G=>.ox [] G
 |.ox _ _=>.un
 |z=>z
noncomputable def unO(sd:List Slot):List Slot:=sd.map unS
theorem iK:∀sd:List Slot,bV (unO sd)=[]
 |[]=>rfl
 |.un::r=>iK r
 |.val _::r=>iK r
 |.gh _ _::r=>iK r
 |.own _ _::r=>iK r
 |.od _ _ _::r=>iK r
 |.ox [] _::r=>iK r
 |.ox (_::_) _::r=>iK r
theorem aEI(cap:List (Option Nat))(sd:List Slot):kA cap (unO sd)=kA cap sd:=by
 unfold kA;refine cA λo _=> ?_
 cases o with
 |none=>rfl
 |some k=>
  show aIs (unO sd)[k]? =aIs sd[k]?;unfold unO;rw[bB];cases q:sd[k]? with
  |none=>rfl
  |some z=>
   cases z with
   |ox ls G=>cases ls<;>rfl
   |_=>rfl
theorem vZ{K:aA}{F H H':Hp}:∀ {sd:List Slot}{σ:St},SlotsOk K F H sd σ->SlotsOk K F H' (unO sd) σ
 |[],_,h=>h
 |z::zs,σ,h=>by
  obtain⟨o,r,rfl,a,b⟩:=h;refine⟨o,r,rfl, ?_,vZ b⟩;cases z with
  |un=>trivial
  |val d=>exact a
  |gh d G=>exact a
  |od l ks ds=>trivial
  |ox ls G=>
   cases ls with
   |cons a ls=>trivial
   |nil=>obtain⟨v,h2,h3,h4⟩:=a;exact⟨v,h2,λl hl=>(nomatch hl),λF2 H2 s2 _=>h4 F2 H2 s2 λl hl=>(nomatch hl)⟩
  |own l ds=>trivial
theorem kY{i:Nat}(p:D->Bool)(h:ds[i]? =some d):(ds.take<|i+1).filter p=(ds.take i).filter p++(if p d then[d] else[]):=by rw[eX,h,qF];cases hp:p d<;>simp[hp]
theorem kE{elt:Expr}{ifs:List Expr}{scope:Scope}{N M:List Str}{cap:List (Option Nat)}{sc:Scope}{Tb:D->List Slot}(p:D->Bool)(f:D->D)
  (hi:PId X (unO sd) PT0 tg iter ds) (hl:ds.length<=10000)
  (hsc:X.env.scope=sc) (hcn:kW scope sc=true) (hM:X.N=M) (hcap:jW N M scope sc cap=true) (hk:scope.kind=.function)
  (hg:∀cl C fp s H d,d∈ds->PGd (cxB X N scope cl C fp s H) (kA cap sd) tg d (Tb d))
  (hle:∀d,d∈ds->Le (Tb d) (kA cap sd))
  (ht:∀cl C fp s H d,d∈ds->(ifs=[]/\p d=true)\/∃c,ifs=[c]/\PTd (cxB X N scope cl C fp s H) (Tb d) c (p d))
  (he:∀cl C fp s H d,d∈ds->p d=true->PEd (cxB X N scope cl C fp s H) (Tb d) elt (.val<|f d))
  (hc:X.calm=true:=by rfl) (hs:∀x,Ao iter X.env x=pure x:=by intro _;rfl):
  PEd X sd (.ListComp elt [⟨tg,iter,ifs,0⟩] scope pos) (.own<|(ds.filter p).map f):=.mk λσ F H S=>by
 refine aEe S trivial ?_;have S0:StF X.K X.B₀ F F σ (unO sd):=⟨S.base,Same.refl _,S.smp.sub S.sub,vZ S.slots,by rw[iK];exact cH⟩;intro pins s I
 have nm:∀y∈scope.names,(y.2=NameKind.free->sc.names.lookup y.1=some NameKind.cell)/\(y.2=NameKind.local->scope.names.lookup y.1=some NameKind.local):=λy hy=>by have q:=gC.mp hcn y hy;simp only[bG,mY,lD,beq_eq_false_iff_ne,ne_eq,beq_iff_eq] at q;exact⟨λe=>q.1.1.resolve_left λz=>z e,λe=>q.2.resolve_left λz=>z e⟩
 have fre:∀y∈scope.names,y.2=.free->∃c,X.env.cells.lookup y.1=some c:=λy hy e=>I.ok.has y.1 (.inl<|by show X.env.scope.names.lookup y.1=_;rw[hsc];exact(nm y hy).1 e)
 rw[eval_ListComp];refine wpAny_comprehension_free (use:=none) rfl hs (tM fre) hk (λy hy=>(nm y hy).2) ?_;refine thn (hi σ F F S0 pins s I) λv s1 h1=>thn h1 λitv s2 h2=> ?_
 obtain⟨it,fp,tn,J,H2,e,I2,T,st2,f2,F1,S1,s1',itd⟩:=h2;subst e
 have S1b:StF X.K H2 H2 H2 (uB cap σ) (kA cap sd):=⟨Same.refl _,Same.refl _,S1.smp,by
  have q:=yC (sd:=unO sd) (H':=H2) S1.slots S1.sub cap;rw[aEI] at q
  exact q,by rw[oH];exact cH⟩
 refine zN (N:=N) (cap:=cap) (g:=λv σ2 H3 Q=>∀cl C,wG (cxB X N scope cl C fp s2 H2) tg v σ2 H3 Q) (tt:=λσ2 H3 Q=>∀cl C,aKF (cxB X N scope cl C fp s2 H2) ifs σ2 H3 Q) (te:=λσ2 H3 Q=>∀cl C,wE (cxB X N scope cl C fp s2 H2) elt σ2 H3 Q)
  hc hsc hcn (by rw[hM];exact hcap) hk I2 T st2 f2 (λcl C pi s3 σ3 H3 v u Q I3 ru q=>q cl C pi s3 u I3 ru) (λcl C pi s3 σ3 H3 Q I3 q=>q cl C pi s3 I3) (λcl C pi s3 σ3 H3 Q I3 q=>q cl C pi s3 I3)
  (λi m ys σb H3=>m=ds.length-i/\i<=ds.length/\∃Fb,StF X.K H2 Fb H3 σb (kA cap sd)/\RepL X.K Fb (((ds.take i).filter p).map f) ys) ds.length
  ⟨by simp,bJ _,H2,S1b,by simpa using RepL.nil⟩ _ ?_
 rintro i m ys σb H3 ⟨rfl,hil,Fb,Sb,rl⟩;have sF1:Same F1 Fb:=λb o g=>Sb.base _ _<|S1.sub _ _ g
 obtain⟨g1,g2,g3⟩:=itd Fb H3 sF1 Sb.sub Sb.smp trivial i
 by_cases hlt:i<ds.length
 ·have hd:ds[i]? =some ds[i]:=by simp[hlt]
  have hm:ds[i]∈ds:=hZ hlt
  have ylen:ys.length<=i:=by rw[rl.len,aB];exact cC (nM _ _) (by simp;omega)
  refine .inr ⟨g1 hlt,eV<|by omega,λys' σ' H'=>∃Fb',StF X.K H2 Fb' H' σ' (kA cap sd)/\RepL X.K Fb' (((ds.take<|i+1).filter p).map f) ys',λys' σ' H' ⟨Fb',Sb',rl'⟩=>⟨ds.length-(i+1),by omega,rfl,hlt,Fb',Sb',rl'⟩,λx H4 y cl C=> ?_⟩;obtain⟨F4,s4,rp,up⟩:=g3 x H4 ds[i] hd y;refine(hg cl C fp s2 H2 _ hm σb F4 H4 x (up _ _ _ Sb) rp).imp λσ5 H5 ⟨F5,S5,s5⟩ cl2 C2=> ?_
  have rl5:=rl.mono<|s4.trans s5
  have fin:∀ (b:Bool) (H6:Hp) (F6:Hp),b=p ds[i]->StF X.K H2 F6 H6 σ5 (Tb ds[i])->Same F5 F6->if b=true then(∀cl C,wE (cxB X N scope cl C fp s2 H2) elt σ5 H6 λv H5=>∃Fb',StF X.K H2 Fb' H5 σ5 (kA cap sd)/\RepL X.K Fb' (((ds.take<|i+1).filter p).map f) (ys++[v])) else ∃Fb',StF X.K H2 Fb' H6 σ5 (kA cap sd)/\RepL X.K Fb' (((ds.take<|i+1).filter p).map f) ys:=λb H6 F6 eb S6 s6=>by
   rw[kY p hd,<-eb];cases b with
   |false=>exact aFV ⟨F6,S6.le<|hle _ hm,by simpa using rl5.mono s6⟩
   |true=>
    refine aFU λcl3 C3=>(he cl3 C3 fp s2 H2 _ hm eb.symm σ5 F6 H6 S6).imp λv H7 ⟨F7,S7,s7,q7⟩=>⟨F7,S7.le<|hle _ hm, ?_⟩
    simp only[if_true,aU,aV,dJ];exact((rl5.mono s6).mono s7).app<|.one q7
  rcases ht cl2 C2 fp s2 H2 _ hm with⟨e1,e2⟩|⟨c,e1,q⟩
  ·subst e1;exact yY (fin true H5 F5 e2.symm S5<|Same.refl _)
  ·subst e1;exact zA<|(q σ5 F5 H5 S5).imp λb H6 ⟨eb,F6,S6,s6⟩=>fin b H6 F6 eb S6 s6
 ·have e:i=ds.length:=by omega
  subst e;refine .inl ⟨g2<|aO _,λD C s' hD hC hDC h0 hL hcc hpp hst ⟨m',ns'⟩ J'=>⟨m',ns',λh' sb=> ?_⟩⟩;have J2:Inv X pins σ (upd H3 D<|.lst ys) {s' with heap:=h',toks:=s'.toks}:=J'.turned (it:=C) (λb o hb g=>sb.extBut b o hb g) (by rw[bD<|Ne.symm hDC];exact hC) hL (.inr h0) hcc hpp;refine⟨.ref D,_,J2,rfl,Fb,λb o g=>Sb.base _ _ (S1.sub _ _<|s1' _ _ g),λb o g=> ?_,λb o g=> ?_,D,ys,rfl,Sb.sub.free hD,bM, ?_,by simp[bV]⟩
  ·have g3:=Sb.sub _ _ g;rw[bD<|bX g3 hD];exact g3
  ·by_cases hb:b=D
   ·subst hb;rw[bM] at g;cases g;trivial
   ·rw[bD hb] at g;exact Sb.smp _ _ g
  ·simpa using rl
noncomputable def isT:D->Bool
 |.tup _=>true
 |_=>false
noncomputable def isL:D->Bool
 |.lst _=>true
 |.scr _=>true
 |_=>false
theorem aEf(K:aA)(d:D):bP K (tyD d) (.type "list")=some (isL d):=by cases d<;>with_unfolding_all rfl
theorem PEd.cast{r':R}(h:PEd X sd e r)(q:r=r'):PEd X sd e r':=q▸h
theorem fB{k:Bool}{x o:List BJ}(h:PTd X sd c k)(hk:k=false)(h2:PSd X sd o E):PSd1 X sd (.If c x o pos) E:=gK h (λe=>by rw[hk] at e;cases e) λ_=>h2
theorem gU{k:Bool}{x o:List BJ}(h:PTd X sd c k)(hk:k=true)(h2:PSd X sd x E):PSd1 X sd (.If c x o pos) E:=gK h (λ_=>h2) λe=>by rw[hk] at e;cases e
theorem sC{i:Int}(ha:PEd X sd a (.bor ds))(hb:PEd X sd b (.val<|.int i))(h0:0<=i)(hd:ds[i.toNat]? =some d)(hs:lP b):PEd X sd (.Subscript a b pos) (.val d):=by
 have e:i=(i.toNat:Int):=by omega
 rw[e] at hb;exact qO ha hb hd hs
theorem lM{i:Int}(ha:PEd X sd a (.val<|.tup ds))(hb:PEd X sd b (.val<|.int i))(h0:0<=i)(hd:ds[i.toNat]? =some d)(hs:lP b):PEd X sd (.Subscript a b pos) (.val d):=by
 have e:i=(i.toNat:Int):=by omega
 rw[e] at hb;exact aBo ha hb hd hs
theorem tI{i:Int}(h:i.natAbs<2^250):Builtin.Int.intBits i<=2^20:=by
 unfold Builtin.Int.intBits
 split
 ·exact bJ _
 ·rename_i hz
  have hne:i.natAbs≠0:=by
   intro z;apply hz;have:i=0:=by omega
   subst this;rfl
  have:=(Nat.log2_lt hne).mpr h;have e:(250:Nat)+1<=2^20:=by decide
  omega
theorem jU{i j:Int}(h1:i.natAbs<2^250)(h2:j.natAbs<2^250):IntMulOk i j:=.of_bits (tI h1)<|tI h2
noncomputable def most:Int:=1000*10^64
noncomputable def cG:List (Int×Int):=[(2,2),(1,1),(1,2),(2,1),(1,3),(3,1),(2,3),(3,2),(1,4),(4,1),(1,5),(5,1),(1,6),(6,1)]
noncomputable def cQ(p:Int×Int):D:=.tup [.int p.1,.int p.2]
def aKH:List D->R->Prop:=λds r=>∃ns:List Int,ds=[.scr ns]/\ns.length<=63/\r=.val (.bl true)
theorem zO{ns:List Int}{k:Nat}(h:(ns.map D.int)[k]? =some d):k<ns.length/\d=.int (ns.getD k 0):=by
 rw[bB] at h;cases e:ns[k]? with
 |none=>rw[e] at h;cases h
 |some z=>rw[e] at h;refine⟨(aF.mp e).1, ?_⟩;rw[<-bY.inj h,cP,e];rfl
theorem getD_mem{α:Type}{l:List α}{i:Nat}{d:α}(h:i<l.length):l.getD i d∈l:=by
 have e:l.getD i d=l[i]:=by simp[cP,h]
 rw[e];exact hZ h
theorem aDR(h:aKA H):Smp H:=λb o e=>by
 rcases h b with z|⟨o',xs,z⟩
 ·rw[z] at e;cases e
 ·rw[z] at e;cases e;trivial
theorem walkD{l:PySem.W.OpenLaw}{k:Nat}{x:Str}{q:AF}{loose:List Str}{XP:(Str->Option BD)->BH->Prop}{YP:AM->BH->Prop}{d:DefRec}{K:Params->aA}(hn:l.most=some 63)(hdf:d.params.defaults=[])
  (hr:Room k callerA) (hY:∀ (w:AM) (h:BH),YP w h->(K w.params).In h)
  (F:∀ (w:AM) (mg:Str→Option BD) (fa:BF) (h:BH),(K w.params).In h→h.Ns AO mg→mg d.name=some (.ref fa)→
   ∃fd:AX,(∀ (s:BE) (u:BD),BindsTo s fd ⟨[u],[]⟩ [(x,u)])/\∀base:BH,(K w.params).In base->base.Ns AO mg->FnOk l.prog w (K w.params) mg base CX0 k fa fd [x] (spC (K w.params) 1 aKH)):
  PySem.W.WalkO q loose XP YP l.row.toRowW d [] (λf vs=>PySem.call f vs):=
 L2.walk_of (n:=63) (k:=k) (x:=x) (CX:=λ_=>CX0) (sp:=λw=>spC (K w.params) 1 aKH) hn (by decide) hdf hr hY F
  (λw H a ns hl ho hS=>⟨rfl,aDR ho,[.scr ns],.val<|.bl true,.one (by simp only[Rep];exact⟨a,rfl,hS⟩),⟨ns,rfl,hl,rfl⟩,λv H' ⟨F,_,_,_,res⟩=>by simpa only[ResOk,Rep] using res⟩) λ_ _ _ _ _ z=>z
mutual
noncomputable def deq:D->D->Bool
 |.non,.non=>true
 |.bl a,.bl b=>a==b
 |.bl a,.int b=>(if a then 1 else 0)==b
 |.int a,.bl b=>a==(if b then 1 else 0)
 |.int a,.int b=>a==b
 |.str a,.str b=>a==b
 |.tup a,.tup b=>kB a b
 |.lst a,.lst b=>kB a b
 |_,_=>false
noncomputable def kB:List D->List D->Bool
 |[],[]=>true
 |x::xs,y::ys=>deq x y&&kB xs ys
 |_,_=>false
end
mutual
noncomputable def pl:D->Bool
 |.dic=>false
 |.dki _ _=>false
 |.any _=>false
 |.scr _=>false
 |.tup ds=>plL ds
 |.lst ds=>plL ds
 |_=>true
noncomputable def plL:List D->Bool
 |[]=>true
 |d::ds=>pl d&&plL ds
end
mutual
noncomputable def dep:D->Nat
 |.tup ds=>iY ds+1
 |.lst ds=>iY ds+1
 |_=>0
noncomputable def iY:List D->Nat
 |[]=>0
 |d::ds=>max (dep d)<|iY ds
end
theorem xU:∀ {ds:List D}{i:Nat}{d:D},plL ds=true->ds[i]? =some d->pl d=true
 |[],i,d,_,e=>by simp at e
 |d'::ds,i,d,h,e=>by
  simp only[plL,bG] at h;cases i with
  |zero=>simp at e;subst e;exact h.1
  |succ i=>exact xU h.2 (by simpa using e)
theorem sR:∀ {ds:List D}{i:Nat}{d:D},ds[i]? =some d->dep d<=iY ds
 |[],i,d,e=>by simp at e
 |d'::ds,i,d,e=>by
  simp only[iY];cases i with
  |zero=>simp at e;subst e;exact Nat.le_max_left _ _
  |succ i=>exact cC (sR (i:=i)<|by simpa using e)<|Nat.le_max_right _ _
theorem deqL_iff:∀ {xs ys:List D},kB xs ys=true↔xs.length=ys.length/\∀ (j:Nat) (x y:D),xs[j]? =some x->ys[j]? =some y->deq x y=true
 |[],[]=>by simp[kB]
 |[],y::ys=>by simp[kB]
 |x::xs,[]=>by simp[kB]
 |x::xs,y::ys=>by
  simp only[kB,bG,bL,deqL_iff (xs:=xs) (ys:=ys)]
  constructor
  ·rintro⟨h1,h2,h3⟩;refine⟨by omega,λj a b ea eb=> ?_⟩;cases j with
   |zero=>simp at ea eb;subst ea eb;exact h1
   |succ j=>exact h3 j a b (by simpa using ea) (by simpa using eb)
  ·rintro⟨h1,h2⟩;exact⟨h2 0 x y rfl rfl,by omega,λj a b ea eb=>h2 (j+1) a b (by simpa using ea)<|by simpa using eb⟩
mutual
theorem uA{K:aA}{H:Hp}:∀ {d1 d2:D}{v:V},pl d1=true->Rep K H d1 v->Rep K H d2 v->pl d2=true->deq d1 d2=true
 |.non,d2,v,_,r1,r2,_=>by simp only[Rep] at r1;subst r1;cases d2<;>simp_all[Rep,deq]
 |.bl b,d2,v,_,r1,r2,_=>by simp only[Rep] at r1;subst r1;cases d2<;>simp_all[Rep,deq]
 |.int b,d2,v,_,r1,r2,_=>by simp only[Rep] at r1;subst r1;cases d2<;>simp_all[Rep,deq]
 |.str b,d2,v,_,r1,r2,_=>by simp only[Rep] at r1;subst r1;cases d2<;>simp_all[Rep,deq]
 |.dic,_,_,h,_,_,_=>by simp[pl] at h
 |.dki _ _,_,_,h,_,_,_=>by simp[pl] at h
 |.any _,_,_,h,_,_,_=>by simp[pl] at h
 |.scr _,_,_,h,_,_,_=>by simp[pl] at h
 |.tup ds,d2,v,p1,r1,r2,p2=>by
  simp only[Rep] at r1;obtain⟨a,xs,rfl,ha,rl⟩:=r1;cases d2 with
  |tup es=>simp only[Rep] at r2;obtain⟨a',xs',e,ha',rl'⟩:=r2;cases e;rw[ha] at ha';cases ha';simp only[deq];exact qH (by simpa[pl] using p1) rl rl' (by simpa[pl] using p2)
  |lst es=>simp only[Rep] at r2;obtain⟨a',xs',e,ha',rl'⟩:=r2;cases e;rw[ha] at ha';cases ha'
  |dic=>simp[pl] at p2
  |dki=>simp[pl] at p2
  |any=>simp[pl] at p2
  |scr=>simp[pl] at p2
  |_=>simp[Rep] at r2
 |.lst ds,d2,v,p1,r1,r2,p2=>by
  simp only[Rep] at r1;obtain⟨a,xs,rfl,ha,rl⟩:=r1;cases d2 with
  |lst es=>simp only[Rep] at r2;obtain⟨a',xs',e,ha',rl'⟩:=r2;cases e;rw[ha] at ha';cases ha';simp only[deq];exact qH (by simpa[pl] using p1) rl rl' (by simpa[pl] using p2)
  |tup es=>simp only[Rep] at r2;obtain⟨a',xs',e,ha',rl'⟩:=r2;cases e;rw[ha] at ha';cases ha'
  |dic=>simp[pl] at p2
  |dki=>simp[pl] at p2
  |any=>simp[pl] at p2
  |scr=>simp[pl] at p2
  |_=>simp[Rep] at r2
theorem qH{K:aA}{H:Hp}:∀ {ds es:List D}{xs:List V},plL ds=true->RepL K H ds xs->RepL K H es xs->plL es=true->kB ds es=true
 |[],es,xs,_,r1,r2,_=>by
  simp only[RepL] at r1;subst r1;cases es with
  |nil=>rfl
  |cons e es=>obtain⟨y,ys,z,_⟩:=r2.uncons;cases z
 |d::ds,es,xs,p1,r1,r2,p2=>by
  obtain⟨y,ys,rfl,a,rl⟩:=r1.uncons;cases es with
  |nil=>simp only[RepL] at r2;cases r2
  |cons e es=>obtain⟨y',ys',z,a',rl'⟩:=r2.uncons;cases z;simp only[plL,bG] at p1 p2;simp only[kB,bG];exact⟨uA p1.1 a a' p2.1,qH p1.2 rl rl' p2.2⟩
end
noncomputable def pJ:D->Bool
 |.non=>true
 |.bl _=>true
 |.int _=>true
 |.str _=>true
 |_=>false
theorem rY(h:pJ d=true)(r:Rep K H d v):mB v=true/\flt d=some v:=by cases d<;>simp_all[pJ,Rep,mB,flt]
variable {P:AF}{w:AM}{s:BE}
theorem iH(hok:HOk P w H s.heap){u:BD}(r:Rep K H (.tup ds) v)(ru:RelV v u):∃a xs its,u=.ref a/\v=.ref a/\RepL K H ds xs/\Vals xs its/\s.heap.IsTuple a its.toArray:=by simp only[Rep] at r;obtain⟨a,xs,rfl,ha,rl⟩:=r;cases ru;obtain⟨_,its,rv,p⟩:=(show ObjOk P w H s.heap a (.tup xs) from hok a _ ha);exact⟨a,xs,its,rfl,rfl,rl,rv,p.tup⟩
theorem kK(hok:HOk P w H s.heap){u:BD}(r:Rep K H (.lst ds) v)(ru:RelV v u):∃a xs its,u=.ref a/\v=.ref a/\RepL K H ds xs/\Vals xs its/\s.heap.IsList a its.toArray:=by simp only[Rep] at r;obtain⟨a,xs,rfl,ha,rl⟩:=r;cases ru;obtain⟨_,its,n,rv,p⟩:=(show ObjOk P w H s.heap a (.lst xs) from hok a _ ha);exact⟨a,xs,its,rfl,rfl,rl,rv,_,p,rfl,n,rfl⟩
noncomputable def dAt(ds es:List D)(j:Nat):Bool:=match ds[j]?,es[j]? with
 |some x,some y=>deq x y
 |_,_=>false
theorem uM(ds es:List D):((bQ<|min ds.length es.length).all (dAt ds es)&&ds.length==es.length)=kB ds es:=by
 rw[iQ,deqL_iff,bG,gC,beq_iff_eq]
 constructor
 ·rintro⟨h1,h2⟩;refine⟨h2,λj x y ex ey=> ?_⟩;have hj:j<ds.length:=(aF.mp ex).1;have:=h1 j (dU.mpr<|by omega);unfold dAt at this;rw[ex,ey] at this;exact this
 ·rintro⟨h1,h2⟩;refine⟨λj hj=> ?_,h1⟩;have hj':=dU.mp hj;have e1:ds[j]? =some (ds[j]'(by omega)):=by simp
  have e2:es[j]? =some (es[j]'(by omega)):=by simp
  unfold dAt;rw[e1,e2];exact h2 j _ _ e1 e2
theorem wH{es:List D}(h:ds.length=es.length):(bQ ds.length).all (dAt ds es)=kB ds es:=by have:=uM ds es;rw[h] at this ⊢;simpa using this
theorem zI{es:List D}(h:ds.length≠es.length):kB ds es=false:=by
 cases e:kB ds es with
 |false=>rfl
 |true=>exact absurd (deqL_iff.mp e).1 h
mutual
theorem xA(hok:HOk P w H s.heap):∀ (d1:D) {d2:D}{v1 v2:V}{u1 u2:BD}{A:BG},pl d1=true->pl d2=true->Rep K H d1 v1->Rep K H d2 v2->RelV v1 u1->RelV v2 u2->A.units+dep d1<AQ->SeqAt.EqAt A s u1 u2 (deq d1 d2)
 |.tup ds,d2,v1,v2,u1,u2,A,p1,p2,r1,r2,ru1,ru2,hu=>by
  have hu':A.units<AQ:=by omega
  obtain⟨a,xs,its,rfl,rfl,rl,rv,ht⟩:=iH hok r1 ru1;cases d2 with
  |non=>simp only[Rep] at r2;subst r2;cases ru2;exact SeqAt.EqAt.tuple_none ht hu'
  |bl b=>simp only[Rep] at r2;subst r2;cases ru2;exact SeqAt.EqAt.tuple_bool b ht hu'
  |int b=>simp only[Rep] at r2;subst r2;obtain⟨t,rfl⟩:=ru2;exact SeqAt.EqAt.tuple_int b t ht hu'
  |str b=>simp only[Rep] at r2;subst r2;obtain⟨t,rfl⟩:=ru2;exact SeqAt.EqAt.tuple_str b t ht hu'
  |dic=>simp[pl] at p2
  |dki=>simp[pl] at p2
  |any=>simp[pl] at p2
  |scr=>simp[pl] at p2
  |lst es=>obtain⟨b,ys,jts,rfl,rfl,rl2,rv2,hl2⟩:=kK hok r2 ru2;exact SeqAt.EqAt.tuple_list ht hl2 hu'
  |tup es=>
   obtain⟨b,ys,jts,rfl,e2,rl2,rv2,ht2⟩:=iH hok r2 ru2
   by_cases hab:a=b
   ·subst hab;have:=uA p1 r1 (e2▸r2) p2;rw[this];exact SeqAt.EqAt.same _
   ·simp only[deq];rw[<-uM];have l1:its.toArray.size=ds.length:=by rw[bC,<-rv.length,rl.len]
    have l2:jts.toArray.size=es.length:=by rw[bC,<-rv2.length,rl2.len]
    rw[<-l1,<-l2];simp only[pl] at p1 p2;simp only[dep] at hu;refine .of_refs hab<|.tuples ht ht2 hu' λj h1 h2=> ?_;exact uI hok ds p1 p2 rl rl2 rv rv2 (A:=A.in1) (by show A.units+1+_<AQ;omega) (by simp)<|by simp
 |.lst ds,d2,v1,v2,u1,u2,A,p1,p2,r1,r2,ru1,ru2,hu=>by
  have hu':A.units<AQ:=by omega
  obtain⟨a,xs,its,rfl,rfl,rl,rv,ht⟩:=kK hok r1 ru1;cases d2 with
  |non=>simp only[Rep] at r2;subst r2;cases ru2;exact SeqAt.EqAt.list_none ht hu'
  |bl b=>simp only[Rep] at r2;subst r2;cases ru2;exact SeqAt.EqAt.list_bool b ht hu'
  |int b=>simp only[Rep] at r2;subst r2;obtain⟨t,rfl⟩:=ru2;exact SeqAt.EqAt.list_int b t ht hu'
  |str b=>simp only[Rep] at r2;subst r2;obtain⟨t,rfl⟩:=ru2;exact SeqAt.EqAt.list_str b t ht hu'
  |dic=>simp[pl] at p2
  |dki=>simp[pl] at p2
  |any=>simp[pl] at p2
  |scr=>simp[pl] at p2
  |tup es=>obtain⟨b,ys,jts,rfl,rfl,rl2,rv2,hl2⟩:=iH hok r2 ru2;exact SeqAt.EqAt.list_tuple ht hl2 hu'
  |lst es=>
   obtain⟨b,ys,jts,rfl,e2,rl2,rv2,ht2⟩:=kK hok r2 ru2
   by_cases hab:a=b
   ·subst hab;have:=uA p1 r1 (e2▸r2) p2;rw[this];exact SeqAt.EqAt.same _
   ·simp only[deq];have l1:its.toArray.size=ds.length:=by rw[bC,<-rv.length,rl.len]
    have l2:jts.toArray.size=es.length:=by rw[bC,<-rv2.length,rl2.len]
    simp only[pl] at p1 p2;simp only[dep] at hu
    by_cases hl:ds.length=es.length
    ·rw[<-wH hl,<-l1];refine .of_refs hab<|.lists ht ht2 (by rw[l1,l2,hl]) hu' λj h1 h2=> ?_;exact uI hok ds p1 p2 rl rl2 rv rv2 (A:=A.in1) (by show A.units+1+_<AQ;omega) (by simp)<|by simp
    ·rw[zI hl];exact .of_refs hab<|.lists_lengths ht ht2 (by rw[l1,l2];simpa using hl) hu'
 |.dic,_,_,_,_,_,_,p1,_,_,_,_,_,_=>by simp[pl] at p1
 |.dki _ _,_,_,_,_,_,_,p1,_,_,_,_,_,_=>by simp[pl] at p1
 |.any _,_,_,_,_,_,_,p1,_,_,_,_,_,_=>by simp[pl] at p1
 |.scr _,_,_,_,_,_,_,p1,_,_,_,_,_,_=>by simp[pl] at p1
 |.non,d2,v1,v2,u1,u2,A,p1,p2,r1,r2,ru1,ru2,hu=>by
  have hu':A.units<AQ:=by omega
  simp only[Rep] at r1;subst r1;cases hf:pJ d2 with
  |true=>obtain⟨h1,h2⟩:=rY hf r2;have:=sP (A:=A) (s:=s) ru1 ru2 rfl h1;cases d2<;>simp_all[pJ,flt,Rep,deq,eqV]
  |false=>
   cases ru1;cases d2 with
   |tup es=>obtain⟨b,ys,jts,rfl,e2,rl2,rv2,ht2⟩:=iH hok r2 ru2;exact SeqAt.EqAt.none_tuple ht2 hu'
   |lst es=>obtain⟨b,ys,jts,rfl,e2,rl2,rv2,ht2⟩:=kK hok r2 ru2;exact SeqAt.EqAt.none_list ht2 hu'
   |dic=>simp[pl] at p2
   |dki=>simp[pl] at p2
   |any=>simp[pl] at p2
   |scr=>simp[pl] at p2
   |_=>simp[pJ] at hf
 |.bl q,d2,v1,v2,u1,u2,A,p1,p2,r1,r2,ru1,ru2,hu=>by
  have hu':A.units<AQ:=by omega
  simp only[Rep] at r1;subst r1;cases hf:pJ d2 with
  |true=>obtain⟨h1,h2⟩:=rY hf r2;have:=sP (A:=A) (s:=s) ru1 ru2 rfl h1;cases d2<;>simp_all[pJ,flt,Rep,deq,eqV]
  |false=>
   cases ru1;cases d2 with
   |tup es=>obtain⟨b,ys,jts,rfl,e2,rl2,rv2,ht2⟩:=iH hok r2 ru2;exact SeqAt.EqAt.bool_tuple q ht2 hu'
   |lst es=>obtain⟨b,ys,jts,rfl,e2,rl2,rv2,ht2⟩:=kK hok r2 ru2;exact SeqAt.EqAt.bool_list q ht2 hu'
   |dic=>simp[pl] at p2
   |dki=>simp[pl] at p2
   |any=>simp[pl] at p2
   |scr=>simp[pl] at p2
   |_=>simp[pJ] at hf
 |.int q,d2,v1,v2,u1,u2,A,p1,p2,r1,r2,ru1,ru2,hu=>by
  have hu':A.units<AQ:=by omega
  simp only[Rep] at r1;subst r1;cases hf:pJ d2 with
  |true=>obtain⟨h1,h2⟩:=rY hf r2;have:=sP (A:=A) (s:=s) ru1 ru2 rfl h1;cases d2<;>simp_all[pJ,flt,Rep,deq,eqV]
  |false=>
   obtain⟨t,rfl⟩:=ru1;cases d2 with
   |tup es=>obtain⟨b,ys,jts,rfl,e2,rl2,rv2,ht2⟩:=iH hok r2 ru2;exact SeqAt.EqAt.int_tuple q t ht2 hu'
   |lst es=>obtain⟨b,ys,jts,rfl,e2,rl2,rv2,ht2⟩:=kK hok r2 ru2;exact SeqAt.EqAt.int_list q t ht2 hu'
   |dic=>simp[pl] at p2
   |dki=>simp[pl] at p2
   |any=>simp[pl] at p2
   |scr=>simp[pl] at p2
   |_=>simp[pJ] at hf
 |.str q,d2,v1,v2,u1,u2,A,p1,p2,r1,r2,ru1,ru2,hu=>by
  have hu':A.units<AQ:=by omega
  simp only[Rep] at r1;subst r1;cases hf:pJ d2 with
  |true=>obtain⟨h1,h2⟩:=rY hf r2;have:=sP (A:=A) (s:=s) ru1 ru2 rfl h1;cases d2<;>simp_all[pJ,flt,Rep,deq,eqV]
  |false=>
   obtain⟨t,rfl⟩:=ru1;cases d2 with
   |tup es=>obtain⟨b,ys,jts,rfl,e2,rl2,rv2,ht2⟩:=iH hok r2 ru2;exact SeqAt.EqAt.str_tuple q t ht2 hu'
   |lst es=>obtain⟨b,ys,jts,rfl,e2,rl2,rv2,ht2⟩:=kK hok r2 ru2;exact SeqAt.EqAt.str_list q t ht2 hu'
   |dic=>simp[pl] at p2
   |dki=>simp[pl] at p2
   |any=>simp[pl] at p2
   |scr=>simp[pl] at p2
   |_=>simp[pJ] at hf
theorem uI(hok:HOk P w H s.heap):∀ (ds:List D) {es:List D}{xs ys:List V}{its jts:List BD}{j:Nat}{x y:BD}{A:BG},plL ds=true->plL es=true->RepL K H ds xs->RepL K H es ys->Vals xs its->Vals ys jts->A.units+iY ds<AQ->its[j]? =some x->jts[j]? =some y->SeqAt.EqAt A s x y (dAt ds es j)
 |[],es,xs,ys,its,jts,j,x,y,A,_,_,r1,_,v1,_,_,e1,_=>by simp only[RepL] at r1;subst r1;cases v1;simp at e1
 |d::ds,es,xs,ys,its,jts,j,x,y,A,p1,p2,r1,r2,v1,v2,hu,e1,e2=>by
  obtain⟨a,as,rfl,ra,rl⟩:=r1.uncons;cases v1 with
  |cons va vas=>
   cases es with
   |nil=>simp only[RepL] at r2;subst r2;cases v2;simp at e2
   |cons e es=>
    obtain⟨b,bs,rfl,rb,rl2⟩:=r2.uncons;cases v2 with
    |cons vb vbs=>
     simp only[plL,bG] at p1 p2;simp only[iY] at hu;cases j with
     |zero=>simp at e1 e2;subst e1 e2;exact xA hok d p1.1 p2.1 ra rb va vb<|by omega
     |succ j=>exact uI hok ds p1.2 p2.2 rl rl2 vas vbs (by omega) (by simpa using e1) (by simpa using e2)
end
theorem rc_D{pins:List (BF×BI)}{d1 d2:D}{u:V}{x y:BD}{Q:BD->BE->Prop}(I:Inv X pins σ H s)(hs:(isT d1=true/\isT d2=true)\/(isL d1=true/\isL d2=true))(p1:pl d1=true)(p2:pl d2=true)(r1:Rep K H d1 v)(r2:Rep K H d2 u)(rx:RelV v x)(ry:RelV u y)
  (hu:X.A.units+dep d1+1<AQ) (q:Q (.bool<|deq d1 d2) s):AK (AH X.prog X.w) X.A (Ad .Eq x y) Q X.xe s:=by
 have hu':X.A.units<AQ:=by omega
 rcases hs with⟨t1,t2⟩|⟨t1,t2⟩
 ·cases d1<;>first|(simp[isT] at t1;done)|skip
  cases d2<;>first|(simp[isT] at t2;done)|skip
  rename_i ds es;obtain⟨a,xs,its,rfl,rfl,rl,rv,ht⟩:=iH I.hok r1 rx;obtain⟨b,ys,jts,rfl,rfl,rl2,rv2,ht2⟩:=iH I.hok r2 ry;have l1:its.toArray.size=ds.length:=by rw[bC,<-rv.length,rl.len]
  have l2:jts.toArray.size=es.length:=by rw[bC,<-rv2.length,rl2.len]
  simp only[pl] at p1 p2;simp only[dep] at hu;simp only[deq] at q;rw[<-uM,<-l1,<-l2] at q;exact SeqAt.eq_tupleAt ht ht2 hu' (λj h1 h2=>uI I.hok ds p1 p2 rl rl2 rv rv2 (A:=X.A.in1) (by show X.A.units+1+_<AQ;omega) (by simp)<|by simp) q
 ·cases d1<;>first|(simp[isL] at t1;done)|(simp[pl] at p1;done)|skip
  cases d2<;>first|(simp[isL] at t2;done)|(simp[pl] at p2;done)|skip
  rename_i ds es;obtain⟨a,xs,its,rfl,rfl,rl,rv,ht⟩:=kK I.hok r1 rx;obtain⟨b,ys,jts,rfl,rfl,rl2,rv2,ht2⟩:=kK I.hok r2 ry;have l1:its.toArray.size=ds.length:=by rw[bC,<-rv.length,rl.len]
  have l2:jts.toArray.size=es.length:=by rw[bC,<-rv2.length,rl2.len]
  simp only[pl] at p1 p2;simp only[dep] at hu;simp only[deq] at q
  by_cases hl:ds.length=es.length
  ·rw[<-wH hl,<-l1] at q;exact SeqAt.eq_listAt ht ht2 (by rw[l1,l2,hl]) hu' (λj h1 h2=>uI I.hok ds p1 p2 rl rl2 rv rv2 (A:=X.A.in1) (by show X.A.units+1+_<AQ;omega) (by simp)<|by simp) q
  ·rw[zI hl] at q;exact SeqAt.eq_list_lengthsAt ht ht2 (by rw[l1,l2];simpa using hl) hu' q
theorem ResOk.rep(S:StF K H₀ F H σ sd)(hk:r.keeps)(q:ResOk K F H sd r v):Rep K H r.toD v:=by
 cases r with
 |val d=>exact Rep.mono S.sub q
 |own ds=>exact hk.elim
 |pr d ls=>exact hk.elim
 |ox G=>exact hk.elim
 |bor ds=>obtain⟨l,xs,e,hl,rl,_⟩:=q;simp only[R.toD,Rep];exact⟨l,xs,e,hl,rl.mono S.sub⟩
theorem aKo(K:aA)(d1 d2:D)(hs:(isT d1=true/\isT d2=true)\/(isL d1=true/\isL d2=true))(p1:pl d1=true)(p2:pl d2=true)(hu:X.A.units+dep d1+1<AQ):OpR X (Ad .Eq) (λx y H Q=>Rep K H d1 x/\Rep K H d2 y/\Q (.bl<|deq d1 d2) H):=by intro pins s σ H x y v u Q I rx ry h;obtain⟨h1,h2,q⟩:=h;exact rc_D I hs p1 p2 h1 h2 rx ry hu ⟨.bl<|deq d1 d2,H,I,rfl,q⟩
theorem aJH(ha:PEd X sd a ra)(hb:PEd X sd b rb)(ka:ra.keeps)(kb:rb.keeps)(hs:(isT ra.toD=true/\isT rb.toD=true)\/(isL ra.toD=true/\isL rb.toD=true))(p1:pl ra.toD=true)(p2:pl rb.toD=true)(hu:X.A.units+dep ra.toD+1<AQ):PEd X sd (.Compare a [.Eq] [b] pos) (.val (.bl<|deq ra.toD rb.toD)):=
 aBE (aKo X.K _ _ hs p1 p2 hu) ha hb ka (jK _) λσ F H v u Q S q1 q2 k=>⟨q1.rep S ka,q2.rep S kb,k F H S<|Same.refl _⟩
noncomputable def aJz(K:aA):R2:=λx y H Q=>∃a b ys,x=.ref a/\y=.ref b/\SqT K H a []/\SqT K H b ys/\Q (.ref b) H
theorem op_catT0:OpR X (Ah .Add) (aJz X.K):=by
 intro pins s σ H x y v u Q I rx ry h;obtain⟨a,b,ys,rfl,rfl,ha,hb,q⟩:=h;cases rx;cases ry;obtain⟨its,r1,p1,_⟩:=I.tuple ha;obtain⟨its2,r2,p2,_⟩:=I.tuple hb;cases r1;obtain⟨⟨cls,dd,data,sl⟩,ho,hc,n,hd⟩:=id p1;obtain⟨⟨cls2,dd2,data2,sl2⟩,ho2,hc2,n2,hd2⟩:=id p2;simp only at hc hd hc2 hd2;subst hc hd hc2 hd2
 exact concat_meets ⟨_,ho,rfl⟩ ⟨_,ho2,rfl⟩ noFill_tuple_add seq_tuple_add lY lE (kO _ _)
  (tuple_addW0 a b ([]:List BD).toArray its2.toArray n n2 dd dd2 sl sl2<|by simp) ⟨ho,ho2,⟨.ref b,H,I,rfl,q⟩⟩
theorem lX{d1 d2:List D}(ha:PEd X sd a (.val<|.tup d1))(hb:PEd X sd b (.val<|.tup d2))(hl:d1.length+d2.length<=10000):PEd X sd (.BinOp a .Add b pos) (.val (.tup<|d1++d2)):=
 aBf (op_catT0.or aGT) ha hb trivial λσ F H v u Q S q1 q2 k=>by
  simp only[ResOk,Rep] at q1 q2;obtain⟨p,xs,e1,hp,rl⟩:=q1;obtain⟨q,ys,e2,hq,rl2⟩:=q2;cases d1 with
  |nil=>simp only[RepL] at rl;subst rl;refine .inl ⟨p,q,ys,e1,e2,.of<|S.sub _ _ hp,.of<|S.sub _ _ hq,k _ F H S (Same.refl _) ?_⟩;simp only[ResOk,Rep,uV];exact⟨q,ys,rfl,hq,rl2⟩
  |cons z zs=>
   refine .inr ⟨p,q,xs,ys,e1,e2,.of<|S.sub _ _ hp,.of<|S.sub _ _ hq, ?_,by rw[rl.len,rl2.len];exact dC<|eV hl,λhy=> ?_,λhy p2 hp2=> ?_⟩
   ·intro hx;subst hx;obtain⟨_,_,w,_⟩:=rl.uncons;cases w
   ·subst hy
    have:d2=[]:=by
     cases d2 with
     |nil=>rfl
     |cons w ws=>obtain⟨_,_,w,_⟩:=rl2.uncons;cases w
    subst this;refine k _ F H S (Same.refl _) ?_;simp only[ResOk,Rep,bZ];exact⟨p,xs,rfl,hp,rl⟩
   ·obtain⟨S2,s2⟩:=S.lay (o:=.tup<|xs++ys) hp2 trivial;refine k _ _ _ S2 s2 ?_;simp only[ResOk,Rep];exact⟨p2,_,rfl,bM,(rl.app rl2).mono s2⟩
theorem kT{p:Pos}(hg:Gl X "tuple")(hm:X.mg "tuple"=none)(ha:PEd X sd e (.bor ds))(hst:AC [e] X.env=(false,eval e X.env)::AC [] X.env:=by rfl):PEd X sd (.Call (.Name "tuple" p) [e] [] pos) (.val<|.tup ds):=
 vM (he:=hst) uY hg hm PyProof.Rows.boot_tuple (aG ha aW trivial hst) λσ F H vs Q S q k=>by
  cases q with
  |cons q1 q2=>cases q2;obtain⟨p,xs,rfl,hp,rl,_⟩:=q1;refine⟨p,xs,rfl,.inl ⟨.of hp,λl hl=> ?_⟩⟩;obtain⟨S2,s2⟩:=S.lay (o:=.tup xs) hl trivial;refine k _ _ _ S2 s2 ?_;simp only[ResOk,Rep];exact⟨l,xs,rfl,bM,rl.mono s2⟩
noncomputable def Ite(K:aA)(a:BF):It:=
 ⟨λi H=>∃xs x,SqL K H a xs/\xs[i]? =some x,λi H x H'=>∃p v,x=.ref p/\H p=none/\H'=upd H p (.tup [.int i,v])/\∀xs,SqL K H a xs->xs[i]? =some v,λi H=>∃xs,SqL K H a xs/\xs.length<=i⟩
theorem aHs{pins:List (BF×BI)}{h':BH}{t':Nat}{e it:BF}(I:Inv X pins σ H s)(k:∀b o,b≠e->b≠it->s.heap.get? b=some o->h'.get? b=some o)(f1:tT X pins H e)(f2:tT X pins H it):Inv X pins σ H {s with heap:=h',toks:=t'}:=by
 have nit:∀b u,H b=some u->b≠e/\b≠it:=λb u q=>⟨λz=>(by rw[z,f1.1] at q;cases q),λz=>(by rw[z,f2.1] at q;cases q)⟩
 have ne:∀b,b∉[e,it]->b≠e/\b≠it:=λb hc=>⟨λz=>hc (by simp[z]),λz=>hc<|by simp[z]⟩
 refine I.step (g':=s.gens) (d':=s.drawn) (ch:=[e,it]) (λb hb=> ?_) (λb o _ _ hc q _=>k b o (ne b hc).1 (ne b hc).2 q) (λb o _ _ hc q _=>⟨o.slots,k b o (ne b hc).1 (ne b hc).2 q⟩) (λ_ _ _ _ n=>n)
  (λb o hc q=>⟨o,k b o (ne b hc).1 (ne b hc).2 q⟩) (λ_ _ q=>q) (λ_ _ _ q=>q) (λb ps q=>⟨#[],by rw[q];simp⟩) (λm hm=> ?_) (λb u q=> ?_) I.bare
 ·rcases aR.mp hb with z|hb
  ·subst z;exact⟨f1.2.2.2.1,f1.2.1,f1.2.2.2.2.1,f1.2.2.2.2.2⟩
  ·have z:b=it:=by simpa using hb
   subst z;exact⟨f2.2.2.2.1,f2.2.1,f2.2.2.2.2.1,f2.2.2.2.2.2⟩
 ·obtain⟨o,es,ep,ho,r⟩:=hm;exact⟨o,es,ep,k _ o (Ne.symm f1.2.1) (Ne.symm f2.2.1) ho,r⟩
 ·refine(I.hok b u q).stay (λc v hc g=> ?_) (λ_ g=>g) λ_ _ g=>g
  rcases hc with z|z
  ·rw[z] at g ⊢;exact k b v (nit b u q).1 (nit b u q).2 g
  ·exact k c v (nit c _ z).1 (nit c _ z).2 g
theorem aCS{elts:List Expr}{kk:Nat}(a e it:BF)(hei:e≠it):aFT P w K (.Tuple elts kk pos) (Ite K a) [e,it] e (λi h=>(∃old,IsEnum h e it i old)/\h.IsListIter it a i) where
 mem:=by simp
 obj:=λi h st b hb=>by
  obtain⟨⟨old,he⟩,hit⟩:=st
  rcases aR.mp hb with z|hb
  ·subst z;exact⟨_,he,λv z=>by cases z⟩
  ·have z:b=it:=by simpa using hb
   subst z;obtain⟨o,q,c,d⟩:=hit;exact⟨o,q,λv z=>by rw[d] at z;cases z⟩
 keep:=λi h h' st k=>by obtain⟨⟨old,he⟩,hit⟩:=st;exact⟨⟨old,k e (by simp) _ he⟩,hit.at λo q=>k it (by simp) o q⟩
 item:=by
  intro X hP hw hK hc i pins s σ H E I hf st hg;subst hP hw hK;obtain⟨⟨old,he⟩,hit⟩:=st;obtain⟨xs,x,hq,hx⟩:=hg;obtain⟨its,rv,p,hz⟩:=I.list hq;obtain⟨u,hu,ru⟩:=rv.get hx;have f1:=hf e (by simp);have f2:=hf it (by simp);refine wpAny_pyNext_enum_item he hit p.isList (x:=u) (by simpa using hu) hei λh1 heo hit1 ht1 hz1 hk1=> ?_
  refine⟨_,rfl,wpAny_letOwnedTupleGo_enum heo λh2 he2 hs2=> ?_⟩;have hs2:Heap.SameBut e h1 h2:=hs2;have esz:e<s.heap.objs.size:=aP he;have isz:it<s.heap.objs.size:=by obtain⟨_,q,_⟩:=hit;exact aP q
  have I1:Inv X pins σ H {s with heap:=h2,toks:=s.toks+1}:=aHs I (λb o h1' h2' q=>(hs2.2 b h1').trans<|hk1 b o h1' h2' q) f1 f2;have hn:H s.heap.objs.size=none:=I.hok.fresh<|aO _;have g2:h2.get? s.heap.objs.size=some {cls:=.type "tuple",data:=.seq #[.int i s.toks,u]}:=(hs2.2 _<|jB esz).trans ht1
  have I2:Inv X pins σ (upd H s.heap.objs.size<|.tup [.int i,x]) {s with heap:=h2,toks:=s.toks+1}:=by
   refine I1.track hn I.sz (jB I.lt) (λy c q=> ?_) (λy hy=> ?_) ⟨by show 2<=AL;decide,[.int i s.toks,u],.cons ⟨_,rfl⟩<|.cons ru .nil,⟨_,g2,rfl,⟨_,rfl⟩,rfl⟩⟩
   ·obtain⟨v,o,ho,_⟩:=I.cell y c q;exact bN<|aP ho
   ·exact bN<|aP (I.pin y hy).1
  refine⟨.ref s.heap.objs.size,_,I2,rfl,⟨_,x,rfl,hn,rfl,λys hy=>by rw[I.list_inj hy hq];exact hx⟩,⟨⟨u, ?_⟩, ?_⟩,λb hb=> ?_⟩
  ·have:((i+1:Nat):Int)=(i:Int)+1:=by push_cast;rfl
   rw[this];exact he2
  ·exact hit1.at λo q=>(hs2.2 it<|Ne.symm hei).trans q
  ·rcases aR.mp hb with z|hb
   ·subst z;rw[bD<|bN esz];exact f1.1
   ·have z:b=it:=by simpa using hb
    subst z;rw[bD<|bN isz];exact f2.1
 done:=by intro X hP hw hK hc i pins s σ H E I hf st hg;subst hP hw hK;obtain⟨⟨old,he⟩,hit⟩:=st;obtain⟨xs,hq,hx⟩:=hg;obtain⟨its,rv,p,hz⟩:=I.list hq;obtain⟨f0,f1,f2,f3,f4,f5⟩:=hf it (by simp);have hl:=rv.length;exact wpAny_pyNext_enum_end (I.ok.hd hc) he hit p.isList (by simp;omega) λh' eb=>⟨rfl,I.turned (t':=s.toks) (λb o hb q=>eb b o hb q) f0 f1 f3 f4 f5⟩
 self:=λ_ _ _ _ _ st h=>by obtain⟨⟨old,he⟩,_⟩:=st;exact wpAny_pyIter_enum he h
noncomputable def aLj(K:aA)(ta:TA):TI:=λσ H R=>ta σ H λvs H1=>∃l,vs=[.ref l]/\(∃xs,SqL K H1 l xs)/\R (Ite K l) H1
theorem aHY{elts:List Expr}{kk:Nat}{tp:Pos}{ta:TA}{p:Pos}(hg:Gl X "enumerate")(hm:X.mg "enumerate"=none)(ha:PA X [a] ta)(hs:AC [a] X.env=[(false,eval a X.env)]:=by rfl):PI X (.Tuple elts kk tp) (.Call (.Name "enumerate" p) [a] [] pos) (aLj X.K ta):=by
 intro pins s σ H R I h;refine Call_ (mL I hg hm boot_enumerate<|PyProof.Rows.callWith_type1 (thn (ha pos pins s σ H _ I h) λus s1 ⟨vs,H1,I1,r1,q1⟩=> ?_) hs rfl);obtain⟨l,rfl,⟨xs,hq⟩,q⟩:=q1;cases r1 with
 |cons r rr=>
  cases rr;cases r;obtain⟨its,rv,p,hz⟩:=I1.list hq;refine call_enumerate_list p.isList λh' he hit hsz hk=> ?_
  refine wpAny_pyIter_enum he ?_;have I2:Inv X pins σ H1 {s1 with heap:=h'}:=I1.kept (t':=s1.toks) hk;refine⟨s1.heap.objs.size+1,[s1.heap.objs.size+1,s1.heap.objs.size],_,Ite X.K l,H1,rfl,I2,aCS l _ _<|Nat.succ_ne_self _,⟨⟨_,he⟩,hit⟩,λb hb=> ?_,q⟩
  rcases aR.mp hb with z|hb
  ·subst z;exact I1.fpOk (hX _) (I1.hok.fresh<|hX _)
  ·have z:b=s1.heap.objs.size:=by simpa using hb
   subst z;exact I1.fpOk (aO _) (I1.hok.fresh<|aO _)
noncomputable def tW(ds:List D):List D:=(bQ ds.length).map λ(i:Nat)=>D.tup [.int (i:Int),ds.getD i .non]
theorem qG(ds:List D):(tW ds).length=ds.length:=by simp[tW]
theorem vJ{i:Nat}(h:(tW ds)[i]? =some d):∃x,ds[i]? =some x/\d=.tup [.int (i:Int),x]:=by
 unfold tW at h;rw[bB] at h
 by_cases hi:i<ds.length
 ·rw[oM hi] at h;refine⟨ds[i],by simp[hi], ?_⟩;rw[<-bY.inj h];simp[cP,hi]
 ·rw[gN<|by simpa using hi] at h;cases h
def LP(K:aA)(l:BF)(ds:List D):Hp->Hp->Prop:=λF H=>∃xs,H l=some (.lst xs)/\RepL K F ds xs
theorem aEl{F₁:Hp}{l:BF}:ItD X.K F₁ (LP X.K l ds) (Ite X.K l) (tW ds):=λF H _ sH sm hP i=>by
 obtain⟨xs,hl,rl⟩:=hP;refine⟨λhi=> ?_,λhi=> ?_,λx H' d hd y=> ?_⟩
 ·rw[qG] at hi;exact⟨xs,xs[i]'(by rw[rl.len];exact hi),.of hl,by simp[rl.len,hi]⟩
 ·rw[qG] at hi;exact⟨xs,.of hl,by rw[rl.len];exact hi⟩
 ·obtain⟨p,v,rfl,hp,rfl,hv⟩:=y;obtain⟨z,hz,rfl⟩:=vJ hd;have hv:=hv xs<|.of hl;obtain⟨v',h1,rz⟩:=rl.get hz;rw[hv] at h1;cases h1;have fp:F p=none:=sH.free hp;have s1:Same F (upd F p<|.tup [.int i,v]):=λb u q=>by rw[bD<|bX q fp];exact q
  refine⟨upd F p<|.tup [.int i,v],s1, ?_,λH₀ σ sd S=>(S.lay (o:=.tup [.int i,v]) hp trivial).1⟩;simp only[Rep];exact⟨p,_,rfl,bM,.cons (by simp only[Rep]) (.one<|rz.mono s1)⟩
theorem aED{elts:List Expr}{kk:Nat}{tp p:Pos}(hg:Gl X "enumerate")(hm:X.mg "enumerate"=none)(ha:PEd X sd a (.val<|.lst ds))(hst:AC [a] X.env=[(false,eval a X.env)]:=by rfl):
  PId X sd PT0 (.Tuple elts kk tp) (.Call (.Name "enumerate" p) [a] [] pos) (tW ds):=.mk λσ F H S=>
 (aHY hg hm xQ hst).to ((aG ha aW trivial (by rw [hst]; rfl) σ F H S).imp fun vs H1 ⟨F1,S1,s1,q1⟩=>by
  cases q1 with
  |cons q1 q2=>
   cases q2;simp only[ResOk,Rep] at q1;obtain⟨l,xs,rfl,hl,rl⟩:=q1;refine⟨l,rfl,⟨xs,.of<|S1.sub _ _ hl⟩,F1,S1,s1,λF' H' sF sH sm _ i=> ?_⟩
   exact aEl (X:=X) (F₁:=F1) F' H' sF sH sm ⟨xs,sH _ _ (sF _ _ hl),rl.mono sF⟩ i)
noncomputable def cutD(ds:List D)(lo hi:Option Int):List D:=(ds.drop<|HT.sIx ds.length 0 lo).take<|HT.sIx ds.length ds.length hi-HT.sIx ds.length 0 lo
theorem RepL.cut{xs:List V}(r:RepL K H ds xs)(lo hi:Option Int):RepL K H (cutD ds lo hi) (aFX xs lo hi):=by unfold cutD aFX;rw[r.len];exact(r.drop _).take _
def POd(X:Cx)(sd:List Slot)(e:Option Expr)(o:Option Int):Prop:=match e,o with
 |none,none=>True
 |some e,some i=>PEd X sd e (.val<|.int i)
 |_,_=>False
theorem aBS{eo:Option Expr}{o:Option Int}(h:POd X sd eo o):∃t:TO,PO X eo t/\∀ (σ:St) (F H:Hp),StF X.K X.B₀ F H σ sd->∀Q:Option Int->Hp->Prop,(∀F' H',StF X.K X.B₀ F' H' σ sd->Same F F'->Q o H')->t σ H Q:=by
 cases eo with
 |none=>
  cases o with
  |none=>exact⟨_,aHd,λσ F H S Q k=>k F H S<|Same.refl _⟩
  |some i=>exact h.elim
 |some e=>
  cases o with
  |none=>exact h.elim
  |some i=>have h:PEd X sd e (.val<|.int i):=h;refine⟨_,aHq fG,λσ F H S Q k=>(h σ F H S).imp λv H1 ⟨F1,S1,s1,q1⟩=> ?_⟩;simp only[ResOk,Rep] at q1;exact⟨i,q1,k F1 H1 S1 s1⟩
theorem yE{lo hi:Option Expr}{ol oh:Option Int}{p2:Pos}(ha:PEd X sd a (.val<|.tup ds))(hl:POd X sd lo ol)(hh:POd X sd hi oh)(hn:¬ (HT.sIx ds.length 0 ol=0/\HT.sIx ds.length ds.length oh=ds.length)):PEd X sd (.Subscript a (.Slice lo hi none p2) pos) (.val (.tup<|cutD ds ol oh)):=.mk λσ F H S=>by obtain⟨tl,pl,kl⟩:=aBS hl;obtain⟨th,ph,kh⟩:=aBS hh;refine(aEu aJx fG pl ph).to<|(ha σ F H S).imp λv H1 ⟨F1,S1,s1,q1⟩=>kl σ F1 H1 S1 _ λF2 H2 S2 s2=>kh σ F2 H2 S2 _ λF3 H3 S3 s3=> ?_;have q1:=Rep.mono (s2.trans s3) q1;simp only[Rep] at q1;obtain⟨l,xs,rfl,hl',rl⟩:=q1;refine⟨l,xs,rfl,.of<|S3.sub _ _ hl',by rw[rl.len];exact hn,λp hp=> ?_⟩;obtain⟨S4,s4⟩:=S3.lay (o:=.tup<|aFX xs ol oh) hp trivial;refine⟨_,S4,((s1.trans s2).trans s3).trans s4, ?_⟩;simp only[ResOk,Rep];exact⟨p,_,rfl,bM,(rl.cut ol oh).mono s4⟩
theorem aJc{i:Int}(ha:PEd X sd a (.val<|.int i)):PEd X sd (.UnaryOp .USub a pos) (.val<|.int (-i)):=.mk λσ F H S=>
 (aLm aJo fG).to ((ha σ F H S).imp fun v H1 ⟨F1,S1,s1,q1⟩=>by
  simp only[ResOk,Rep] at q1
  exact⟨i,q1,F1,S1,s1,by simp only[ResOk,Rep]⟩)
theorem iE{body:List BJ}{P:Hp->Hp->Prop}(Sd:Nat->List Slot->Prop)(hi:PId X sd P tg iter ds)(h0:∃sd0,Le sd sd0/\Sd 0 sd0)
  (hb:∀k d sdk,ds[k]? =some d->Sd k sdk->∃sdt,PGd X sdk tg d sdt/\PSd X sdt body {E with nx:=λsd'=>∃sd2,Le sd' sd2/\Sd (k+1) sd2,ct:=λsd'=>∃sd2,Le sd' sd2/\Sd (k+1) sd2,bk:=E.nx}) (hE:∀sdn,Sd ds.length sdn->E.nx sdn) (hP:∀k sdk σ F H,Sd k sdk->StF X.K X.B₀ F H σ sdk->P F H:=by intros;trivial)
  (hc:X.calm=true:=by rfl) (hp:PassesOwn (AH X.prog X.w) X.A X.env X.xe:=by exact PassesOwn.never) (hs:∀x,Ao iter X.env x=pure x:=by intro _;rfl):PSd1 X sd (.For tg iter body [] pos) E:=.mk λσ F H S=>
 (aFt hp hc aLJ aLU pQ hs).to (by
  intro pins s I;refine thn (hi σ F H S pins s I) λv s1 h1=>thn h1 λitv s2 h2=> ?_
  obtain⟨it,fp,tn,J,H2,e,I2,T,st2,f2,F1,S1,s1',itd⟩:=h2;refine⟨it,fp,tn,J,H2,e,I2,T,st2,f2, ?_⟩;obtain⟨sd0,le0,q0⟩:=h0;refine⟨λi m σ' H'=>m=ds.length-i/\i<=ds.length/\∃sdi F',StF X.K X.B₀ F' H' σ' sdi/\Same F1 F'/\Sd i sdi,⟨ds.length,by simp,bJ _,sd0,F1,S1.le le0,Same.refl _,q0⟩, ?_⟩;rintro i m σ' H' ⟨rfl,hil,sdi,F',S',s',qi⟩;obtain⟨g1,g2,g3⟩:=itd F' H' s' S'.sub S'.smp (hP _ _ _ _ _ qi S') i
  by_cases hlt:i<ds.length
  ·refine .inr ⟨g1 hlt,λσ2 H2=>∃sd2 F2,StF X.K X.B₀ F2 H2 σ2 sd2/\Same F1 F2/\Sd (i+1) sd2,λσ2 H2 ⟨sd2,F2,S2,s2,q2⟩=>⟨ds.length-(i+1),by omega,rfl,hlt,sd2,F2,S2,s2,q2⟩,λx H2 y=> ?_⟩;have hd:ds[i]? =some ds[i]:=by simp[hlt]
   obtain⟨F2,s2,rp,up⟩:=g3 x H2 ds[i] hd y;obtain⟨sdt,hg,hbb⟩:=hb i _ sdi hd qi;refine(hg σ' F2 H2 x (up _ _ _ S') rp).imp λσ3 H3 ⟨F3,S3,s3⟩=> ?_
   have base:Same F1 F3:=(s'.trans s2).trans s3;refine(hbb σ3 F3 H3 S3).imp ?_ ?_ ?_ ?_
   ·rintro σ4 H4 ⟨sd4,F4,S4,s4,sd5,le,q5⟩;exact⟨sd5,F4,S4.le le,base.trans s4,q5⟩
   ·exact λv H4 q=>q
   ·rintro σ4 H4 ⟨sd4,F4,S4,s4,q⟩;exact⟨sd4,F4,S4,(s1'.trans base).trans s4,q⟩
   ·rintro σ4 H4 ⟨sd4,F4,S4,s4,sd5,le,q5⟩;exact⟨sd5,F4,S4.le le,base.trans s4,q5⟩
  ·have e:i=ds.length:=by omega
   subst e
   exact .inl ⟨g2 (aO _),sdi,F',S',s1'.trans s',hE sdi qi⟩)
noncomputable def gJ(m:Nat):Nat->List (List Int)
 |0=>[[]]
 |k+1=>(gJ m k).flatMap λs=>(bQ m).map λ(w:Nat)=>s++[(w:Int)]
noncomputable def bK(s:List Int):D:=.tup<|s.map D.int
noncomputable def rM(m:Int)(ws:List Int):Int:=ws.foldl (λn w=>n*m+w) 0
noncomputable def aKQ(b k:Nat):Bool:=let L:=gJ (2^b) k;L.length==2^(b*k)&&(bQ L.length).all λi=>let f:=L.getD i [];f.length==k&&f.all (λw=>decide (0<=w)&&decide (w<2^b))&&decide (rM (2^b) f=i)&&(i==0||HT.lexLt (L.getD (i-1) []) f)
theorem aIu:∀p∈cG,aKQ p.1.toNat p.2.toNat=true:=by decide+kernel
theorem uX:∀p∈cG,1<=p.1/\p.1<=6/\1<=p.2/\p.2<=6/\p.1*p.2<=6:=by decide+kernel
theorem aBC{m:Nat}:∀ {k:Nat}{ws:List Int},ws.length=k->(∀w∈ws,0<=w/\w<m)->ws∈gJ m k
 |0,ws,h,_=>by have:ws=[]:=List.length_eq_zero_iff.mp h;subst this;simp[gJ]
 |k+1,ws,h,hw=>by
  have hne:ws≠[]:=by intro z;subst z;simp at h
  have e:ws=ws.dropLast++[ws.getLast hne]:=(fA hne).symm;have hl:=hw (ws.getLast hne)<|aIa hne;have ih:ws.dropLast∈gJ m k:=aBC (by rw[List.length_dropLast,h];rfl) λw hm=>hw w<|List.dropLast_subset _ hm
  show ws∈(gJ m k).flatMap λs=>(bQ m).map λ(w:Nat)=>s++[(w:Int)]
  refine cW.mpr ⟨_,ih,aX.mpr ⟨(ws.getLast hne).toNat,dU.mpr<|by omega, ?_⟩⟩;have:(((ws.getLast hne).toNat:Nat):Int)=ws.getLast hne:=by omega
  rw[this];exact e.symm
structure aIH(b k:Nat):Prop where
 len:(gJ (2^b) k).length=2^(b*k)
 at_:∀i,i<2^(b*k)->((gJ (2^b) k).getD i []).length=k/\(∀w∈(gJ (2^b) k).getD i [],0<=w/\w<2^b)/\rM (2^b) ((gJ (2^b) k).getD i [])=i/\(i=0\/HT.lexLt ((gJ (2^b) k).getD (i-1) []) ((gJ (2^b) k).getD i [])=true)
theorem aFA{b k:Nat}(h:aKQ b k=true):aIH b k:=by unfold aKQ at h;simp only[bG,beq_iff_eq,gC,dU,decide_eq_true_eq,mY] at h;obtain⟨h1,h2⟩:=h;refine⟨h1,λi hi=> ?_⟩;obtain⟨⟨⟨a,b⟩,c⟩,d⟩:=h2 i (by omega);exact⟨a,b,c,d⟩
theorem aJh{b k:Nat}(h:aIH b k){ws:List Int}(hl:ws.length=k)(hw:∀w∈ws,0<=w/\w<((2^b:Nat):Int)):0<=rM (2^b) ws/\(rM (2^b) ws).toNat<2^(b*k)/\(gJ (2^b) k).getD (rM (2^b) ws).toNat []=ws:=by
 have hm:=aBC hl hw;obtain⟨i,hi,e⟩:=List.mem_iff_getElem.mp hm;have e':(gJ (2^b) k).getD i []=ws:=by simp[cP,hi,e]
 rw[h.len] at hi;have hn:=(h.at_ i hi).2.2.1;rw[e'] at hn;rw[hn];refine⟨by omega,by simpa using hi, ?_⟩;simpa using e'
theorem aAi:∀ (ws vs:List Int),kB (ws.map D.int) (vs.map D.int)=decide (ws=vs)
 |[],[]=>by simp[kB]
 |[],_::_=>by simp[kB]
 |_::_,[]=>by simp[kB]
 |w::ws,v::vs=>by
  simp only[aV,kB,deq,aAi ws vs]
  by_cases h1:w=v<;>by_cases h2:ws=vs<;>simp[h1,h2]
theorem aEE(ws vs:List Int):deq (bK ws) (bK vs)=decide (ws=vs):=by unfold bK;simp only[deq,aAi]
theorem zW:∀ws:List Int,plL (ws.map D.int)=true
 |[]=>rfl
 |w::ws=>by simp[plL,pl,zW ws]
theorem wB:∀ws:List Int,iY (ws.map D.int)=0
 |[]=>rfl
 |w::ws=>by simp[iY,dep,wB ws]
theorem wY(ws:List Int):pl (bK ws)=true:=by simp[bK,pl,zW]
theorem sQ(ws:List Int):dep (bK ws)=1:=by simp[bK,dep,wB]
theorem zJ:∀L:List (List Int),plL (L.map bK)=true
 |[]=>rfl
 |w::ws=>by simp[plL,wY,zJ ws]
theorem vY:∀L:List (List Int),iY (L.map bK)<=1
 |[]=>by simp[iY]
 |w::ws=>by have:=vY ws;simp only[aV,iY,sQ];omega
theorem aGt{i j:Int}(h1: -(2^64)<j)(h2:j<2^64):IntMulOk i j:=.of_right<|intBits_le_64 h1 h2
theorem oY{L:List (List Int)}{k:Nat}(h:(L.map bK)[k]? =some d):k<L.length/\d=bK (L.getD k []):=by
 rw[bB] at h;cases e:L[k]? with
 |none=>rw[e] at h;cases h
 |some z=>rw[e] at h;refine⟨(aF.mp e).1, ?_⟩;rw[<-bY.inj h,cP,e];rfl
theorem aCg{g:Str}{ad:BF}{xs:List V}{p:Pos}(hg:Gl X g)(hm:X.mg g=some (.ref ad))(hq:∀H,SqT X.K H ad xs)(ha:PEd X sd a (.val d))(hd:flt d=some v)(fv:mB v=true)(fx:xs.all mB=true)
  (hk:Ab .In (.Name g p)=false:=by with_unfolding_all rfl) (hdb:(g==("__debug__":Str))=false:=by decide):PTd X sd (.Compare a [.In] [.Name g p] pos) (inV v xs):=.mk λσ F H S=>
 (xN aCR fG (lS (v:= .ref ad) hg hm rfl hdb) hk).to ((ha σ F H S).imp fun x H1 ⟨F1,S1,s1,q1⟩=>by
  have e:=oO hd q1;subst e
  exact⟨ad,xs,rfl,.inr (hq H1),fv,fx,_,rfl,rfl,F1,S1,s1⟩)
theorem aDH(i:Nat){elt:Expr}{ifs:List Expr}{scope:Scope}{N M:List Str}{cap:List (Option Nat)}{sc:Scope}{Tb:D->List Slot}{y:Str}{py spos:Pos}(p:D->Bool)(f:D->D)(ho:bV sd=[])
  (hN:X.N.Nodup) (hi:X.N[i]? =some y) (hy:X.env.scope.names.lookup y=some .local)
  (hsw:AV (.ListComp elt [⟨tg,iter,ifs,0⟩] scope pos) (some<|.Name y py) spos.line X.env=pure true)
  (hit:PId X sd PT0 tg iter ds) (hl:ds.length<=10000)
  (hsc:X.env.scope=sc) (hcn:kW scope sc=true) (hM:X.N=M) (hcap:jW N M scope sc cap=true) (hk:scope.kind=.function)
  (hg:∀cl C fp s H d,d∈ds->PGd (cxB X N scope cl C fp s H) (kA cap sd) tg d (Tb d))
  (hle:∀d,d∈ds->Le (Tb d) (kA cap sd))
  (ht:∀cl C fp s H d,d∈ds->(ifs=[]/\p d=true)\/∃c,ifs=[c]/\PTd (cxB X N scope cl C fp s H) (Tb d) c (p d))
  (he:∀cl C fp s H d,d∈ds->p d=true->PEd (cxB X N scope cl C fp s H) (Tb d) elt (.val<|f d))
  (hE:∀l,E.nx<|sd.set i (.own l<|(ds.filter p).map f))
  (hc:X.calm=true:=by rfl) (hs:∀x,Ao iter X.env x=pure x:=by intro _;rfl):
  PSd1 X sd (.Assign [.Name y py] (.ListComp elt [⟨tg,iter,ifs,0⟩] scope pos) spos) E:=.mk λσ F H S=>by
 intro pins s I
 have nm:∀y∈scope.names,(y.2=NameKind.free->sc.names.lookup y.1=some NameKind.cell)/\(y.2=NameKind.local->scope.names.lookup y.1=some NameKind.local):=λy hy=>by have q:=gC.mp hcn y hy;simp only[bG,mY,lD,beq_eq_false_iff_ne,ne_eq,beq_iff_eq] at q;exact⟨λe=>q.1.1.resolve_left λz=>z e,λe=>q.2.resolve_left λz=>z e⟩
 have fre:∀y∈scope.names,y.2=.free->∃c,X.env.cells.lookup y.1=some c:=λy hy e=>I.ok.has y.1 (.inl<|by show X.env.scope.names.lookup y.1=_;rw[hsc];exact(nm y hy).1 e)
 rw[exec_Assign_Name_used _ _ _ _ hsw];refine AA (wpAny_standAt<|AA ?_);show AK _ X.A (do let _ <-comprehension (.ListComp elt [⟨tg,iter,ifs,0⟩] scope pos) scope X.env _ (newList []) false (eval iter X.env) (some<|assign (.Name y py) X.env)) _ _ s;refine AA<|AW (wpAny_comprehension_free (use:=some<|assign (.Name y py) X.env) (Q:=λ_ s'=>SP X pins (lft X F E) .next s') rfl hs (tM fre) hk (λy hy=>(nm y hy).2) ?_) (λ_ s' hq=>AB<|AB hq) λ_ _ e=>e;refine thn (hit σ F H S pins s I) λv s1 h1=>thn h1 λitv s2 h2=> ?_
 obtain⟨it,fp,tn,J,H2,e,I2,T,st2,f2,F1,S1,s1',itd⟩:=h2;subst e;have S1b:StF X.K H2 H2 H2 (uB cap σ) (kA cap sd):=⟨Same.refl _,Same.refl _,S1.smp,yC (H':=H2) S1.slots S1.sub cap,by rw[oH];exact cH⟩
 refine zN (N:=N) (cap:=cap) (g:=λv σ2 H3 Q=>∀cl C,wG (cxB X N scope cl C fp s2 H2) tg v σ2 H3 Q) (tt:=λσ2 H3 Q=>∀cl C,aKF (cxB X N scope cl C fp s2 H2) ifs σ2 H3 Q) (te:=λσ2 H3 Q=>∀cl C,wE (cxB X N scope cl C fp s2 H2) elt σ2 H3 Q)
  hc hsc hcn (by rw[hM];exact hcap) hk I2 T st2 f2 (λcl C pi s3 σ3 H3 v u Q I3 ru q=>q cl C pi s3 u I3 ru) (λcl C pi s3 σ3 H3 Q I3 q=>q cl C pi s3 I3) (λcl C pi s3 σ3 H3 Q I3 q=>q cl C pi s3 I3)
  (λi m ys σb H3=>m=ds.length-i/\i<=ds.length/\∃Fb,StF X.K H2 Fb H3 σb (kA cap sd)/\RepL X.K Fb (((ds.take i).filter p).map f) ys) ds.length
  ⟨by simp,bJ _,H2,S1b,by simpa using RepL.nil⟩ _ ?_
 rintro i' m ys σb H3 ⟨rfl,hil,Fb,Sb,rl⟩;have sF1:Same F1 Fb:=λb o g=>Sb.base _ _<|S1.sub _ _ g
 obtain⟨g1,g2,g3⟩:=itd Fb H3 sF1 Sb.sub Sb.smp trivial i'
 by_cases hlt:i'<ds.length
 ·have hd:ds[i']? =some ds[i']:=by simp[hlt]
  have hm:ds[i']∈ds:=hZ hlt
  have ylen:ys.length<=i':=by rw[rl.len,aB];exact cC (nM _ _) (by simp;omega)
  refine .inr ⟨g1 hlt,eV<|by omega,λys' σ' H'=>∃Fb',StF X.K H2 Fb' H' σ' (kA cap sd)/\RepL X.K Fb' (((ds.take<|i'+1).filter p).map f) ys',λys' σ' H' ⟨Fb',Sb',rl'⟩=>⟨ds.length-(i'+1),by omega,rfl,hlt,Fb',Sb',rl'⟩,λx H4 y cl C=> ?_⟩;obtain⟨F4,s4,rp,up⟩:=g3 x H4 ds[i'] hd y;refine(hg cl C fp s2 H2 _ hm σb F4 H4 x (up _ _ _ Sb) rp).imp λσ5 H5 ⟨F5,S5,s5⟩ cl2 C2=> ?_
  have rl5:=rl.mono<|s4.trans s5
  have fin:∀ (b:Bool) (H6:Hp) (F6:Hp),b=p ds[i']->StF X.K H2 F6 H6 σ5 (Tb ds[i'])->Same F5 F6->if b=true then(∀cl C,wE (cxB X N scope cl C fp s2 H2) elt σ5 H6 λv H5=>∃Fb',StF X.K H2 Fb' H5 σ5 (kA cap sd)/\RepL X.K Fb' (((ds.take<|i'+1).filter p).map f) (ys++[v])) else ∃Fb',StF X.K H2 Fb' H6 σ5 (kA cap sd)/\RepL X.K Fb' (((ds.take<|i'+1).filter p).map f) ys:=λb H6 F6 eb S6 s6=>by
   rw[kY p hd,<-eb];cases b with
   |false=>exact aFV ⟨F6,S6.le<|hle _ hm,by simpa using rl5.mono s6⟩
   |true=>
    refine aFU λcl3 C3=>(he cl3 C3 fp s2 H2 _ hm eb.symm σ5 F6 H6 S6).imp λv H7 ⟨F7,S7,s7,q7⟩=>⟨F7,S7.le<|hle _ hm, ?_⟩
    simp only[if_true,aU,aV,dJ];exact((rl5.mono s6).mono s7).app<|.one q7
  rcases ht cl2 C2 fp s2 H2 _ hm with⟨e1,e2⟩|⟨c,e1,q⟩
  ·subst e1;exact yY (fin true H5 F5 e2.symm S5<|Same.refl _)
  ·subst e1;exact zA<|(q σ5 F5 H5 S5).imp λb H6 ⟨eb,F6,S6,s6⟩=>fin b H6 F6 eb S6 s6
 ·have e:i'=ds.length:=by omega
  subst e;refine .inl ⟨g2<|aO _,λD C s' hD hC hDC h0 hL hcc hpp hst ⟨m',ns'⟩ J'=> ?_⟩;have fbD:Fb D=none:=Sb.sub.free hD
  have S9:StF X.K X.B₀ Fb (upd H3 D<|.lst ys) σ sd:=by
   refine⟨λb o g=>sF1 _ _<|S1.base _ _ g,λb o g=> ?_,λb o g=> ?_,S1.slots.mono sF1 λl hl=> ?_,S1.nd⟩
   ·rw[bD<|bX g fbD];exact Sb.sub _ _ g
   ·by_cases hb:b=D
    ·subst hb;rw[bM] at g;cases g;trivial
    ·rw[bD hb] at g;exact Sb.smp _ _ g
   ·rw[ho] at hl;cases hl
  have S10:=S9.setO i fbD bM rl (by rw[ho];simp);obtain⟨oC,esC,epC,hoC,rC⟩:=id ns';have nC:(upd H3 D<|.lst ys) C=none:=by rw[bD<|Ne.symm hDC];exact hC
  have Jp:Inv X (pins++[(C,oC)]) σ (upd H3 D<|.lst ys) s':=J'.pins_of λq hq=>(aK.mp hq).elim (λz=>J'.pin q<|aH _ z) λz=>by
   have z:q=(C,oC):=by simpa using z
   subst z
   exact ⟨hoC,nC,hL,fun y=>hst (by
    rcases J'.ok.stk with e|⟨e,_⟩
    ·rw[e];exact y
    ·rw[e];unfold frs;rw[fD];cases X.env.frame with
     |none=>exact y
     |some fr=>exact aC _ y),λv z=>by rw[rC.1] at z;cases z⟩
  show AK _ X.A (assign (.Name y py) X.env<|.ref D) _ _ _;refine wpAny_assign_Name (pY (v:=.ref D) (u:=.ref D) Jp hN hi (.inl hy) rfl (λs3 J3=> ?_)<|.inr hy);have pC:=J3.pin (C,oC) (aH _<|aH _ aE);refine⟨m',⟨oC,esC,epC,pC.1,rC⟩,λh' sb=> ?_⟩;have J4:Inv X pins _ (upd H3 D<|.lst ys) s3:=J3.pins_of λq hq=>J3.pin q (aH _<|aS _ hq)
  have J5:Inv X pins _ (upd H3 D<|.lst ys) {s3 with heap:=h',toks:=s3.toks}:=J4.turned (it:=C) (λb o hb g=>sb.extBut b o hb g) nC hL (.inr h0) hcc hpp;refine⟨_,_,J5,_,Fb,S10,s1'.trans sF1, ?_⟩;have hE':=hE D;simpa using hE'
def stepNames:List Str:=["and","or","xor","add","take","copy","put","not","up","down"]
noncomputable def nm(k:Nat):Str:=stepNames.getD k "down"
noncomputable def hV(k:Nat)(i j n:Int):D:=if k<6 then .tup [.str<|nm k,.int i,.int j] else if k=6 then .tup [.str<|nm k,.int i,.int n] else .tup [.str<|nm k,.int i]
noncomputable def aIx(k:Nat)(m a:Int):Int:=match k with
 |7=>m-1-a
 |8=>a*2%m
 |_=>a / 2
noncomputable def xR(k:Nat)(m a c:Int):Int:=match k with
 |0=>Builtin.bitAnd a c
 |1=>Builtin.bitOr a c
 |2=>Builtin.bitXor a c
 |3=>(a+c)%m
 |4=>(a-c)%m
 |_=>c
noncomputable def newW(k:Nat)(m a c n:Int):Int:=if k=6 then n else if 7<=k then aIx k m a else xR k m a c
theorem aBb:∀k,k<10->decide (V.str (nm k)=V.str "and")=decide (k=0):=by decide+kernel
theorem aGa:∀k,k<10->decide (V.str (nm k)=V.str "or")=decide (k=1):=by decide+kernel
theorem aBg:∀k,k<10->decide (V.str (nm k)=V.str "xor")=decide (k=2):=by decide+kernel
theorem aBn:∀k,k<10->decide (V.str (nm k)=V.str "add")=decide (k=3):=by decide+kernel
theorem xG:∀k,k<10->decide (V.str (nm k)=V.str "take")=decide (k=4):=by decide+kernel
theorem qJ:∀k,k<10->decide (V.str (nm k)=V.str "put")=decide (k=6):=by decide+kernel
theorem yB:∀k,k<10->decide (V.str (nm k)=V.str "not")=decide (k=7):=by decide+kernel
theorem aDx:∀k,k<10->decide (V.str (nm k)=V.str "up")=decide (k=8):=by decide+kernel
theorem aBB:∀k,k<10->inV (V.str<|nm k) [V.str "not",V.str "up",V.str "down"]=decide (7<=k):=by decide+kernel
theorem aEA:∀b,b<7->∀a,a<2^b->∀c,c<2^b->∀k,k<3->0<=xR k 0 ((a:Nat):Int) ((c:Nat):Int)/\xR k 0 ((a:Nat):Int) ((c:Nat):Int)<((2^b:Nat):Int):=by decide+kernel
theorem aLz{k:Nat}(h:k<3)(m a c:Int):xR k m a c=xR k 0 a c:=by
 match k,h with
 |0,_=>rfl
 |1,_=>rfl
 |2,_=>rfl
theorem aEG{b k:Nat}{a c n:Int}(hb:b<7)(hk:k<10)(ha:0<=a/\a<((2^b:Nat):Int))(hc:0<=c/\c<((2^b:Nat):Int))(hn:0<=n/\n<((2^b:Nat):Int)):0<=newW k ((2^b:Nat):Int) a c n/\newW k ((2^b:Nat):Int) a c n<((2^b:Nat):Int):=by
 have ea:a=((a.toNat:Nat):Int):=by omega
 have ec:c=((c.toNat:Nat):Int):=by omega
 have la:a.toNat<2^b:=by have:=ha.2;generalize 2^b=q at *;omega
 have lc:c.toNat<2^b:=by have:=hc.2;generalize 2^b=q at *;omega
 have tab:∀k,k<3->0<=xR k ((2^b:Nat):Int) a c/\xR k ((2^b:Nat):Int) a c<((2^b:Nat):Int):=λk hk=>by rw[aLz hk,ea,ec];exact aEA b hb _ la _ lc k hk
 have mpos:(0:Int)<((2^b:Nat):Int):=by omega
 match k,hk with
 |0,_=>exact tab 0<|by decide
 |1,_=>exact tab 1<|by decide
 |2,_=>exact tab 2<|by decide
 |3,_=>exact⟨dX _<|kC mpos,dD _ mpos⟩
 |4,_=>exact⟨dX _<|kC mpos,dD _ mpos⟩
 |5,_=>exact hc
 |6,_=>exact hn
 |7,_=>show 0<=((2^b:Nat):Int)-1-a/\((2^b:Nat):Int)-1-a<((2^b:Nat):Int);generalize ((2^b:Nat):Int)=q at *;omega
 |8,_=>exact⟨dX _<|kC mpos,dD _ mpos⟩
 |9,_=>show 0<=a / 2/\a / 2<((2^b:Nat):Int);generalize ((2^b:Nat):Int)=q at *;omega
theorem aFN{i j:Int}(ha:PEd X sd a (.val<|.int i))(hb:PEd X sd b (.val<|.int j)):PEd X sd (.Compare a [.Eq] [b] pos) (.val<|.bl (decide<|i=j)):=
 aBE aIX ha hb trivial (jK _) λσ F H v u Q S q1 q2 k=>by
  simp only[ResOk,Rep] at q1 q2;subst q1;subst q2;refine⟨rfl, ?_⟩;have e:decide (V.int i=V.int j)=decide (i=j):=by rw[oZ,nN]
  rw[e];exact k F H S<|Same.refl _
variable {o:Expr}
theorem PEd.ic{i j:Int}(h:PEd X sd e (.val<|.int i))(q:i=j):PEd X sd e (.val<|.int j):=q▸h
mutual
noncomputable def noL:D->Bool
 |.tup ds=>aIf ds
 |.lst _=>false
 |.scr _=>false
 |.dic=>false
 |.dki _ _=>false
 |.any _=>false
 |_=>true
noncomputable def aIf:List D->Bool
 |[]=>true
 |d::ds=>noL d&&aIf ds
end
noncomputable def del(F:Hp)(l:BF):Hp:=λb=>if b=l then none else F b
theorem uD{l b:BF}(h:b≠l):del F l b=F b:=by unfold del;rw[if_neg h]
theorem aAe{l:BF}:del F l l=none:=by unfold del;rw[if_pos rfl]
mutual
theorem Rep.del{K:aA}{F:Hp}{l:BF}{xs:List V}(hl:F l=some (.lst xs)):∀ {d:D}{v:V},noL d=true->Rep K F d v->Rep K (del F l) d v
 |.non,_,_,r=>by simpa only[Rep] using r
 |.bl _,_,_,r=>by simpa only[Rep] using r
 |.int _,_,_,r=>by simpa only[Rep] using r
 |.str _,_,_,r=>by simpa only[Rep] using r
 |.tup ds,v,h,r=>by
  simp only[Rep] at r ⊢;obtain⟨a,ys,e,q,rl⟩:=r
  have ne:a≠l:=λz=>by rw[z,hl] at q;cases q
  exact⟨a,ys,e,by rw[uD ne];exact q,RepL.del hl (by simpa only[noL] using h) rl⟩
 |.lst _,_,h,_=>by simp[noL] at h
 |.dic,_,h,_=>by simp[noL] at h
 |.dki _ _,_,h,_=>by simp[noL] at h
 |.any _,_,h,_=>by simp[noL] at h
 |.scr _,_,h,_=>by simp[noL] at h
theorem RepL.del{K:aA}{F:Hp}{l:BF}{xs:List V}(hl:F l=some (.lst xs)):∀ {ds:List D}{ys:List V},aIf ds=true->RepL K F ds ys->RepL K (del F l) ds ys
 |[],_,_,r=>by simpa only[RepL] using r
 |d::ds,ys,h,r=>by simp only[aIf,bG] at h;obtain⟨y,zs,rfl,a,rl⟩:=r.uncons;exact .cons (Rep.del hl h.1 a)<|RepL.del hl h.2 rl
end
theorem zM{K:aA}{F H:Hp}:∀ {sd:List Slot}{σ:St},σ.length=sd.length->(∀ (k:Nat) (z:Slot),sd[k]? =some z->∃o,σ[k]? =some o/\fY K F H z o)->SlotsOk K F H sd σ
 |[],[],_,_=>rfl
 |z::zs,o::r,hl,h=>by
  obtain⟨o',e,q⟩:=h 0 z rfl;have:o=o':=by simpa using e
  subst this
  exact ⟨o,r,rfl,q,zM (by simpa using hl) fun k z hz=>by
   obtain⟨o',e,q⟩:=h (k+1) z (by simpa using hz)
   exact⟨o',by simpa using e,q⟩⟩
 |[],_::_,hl,_=>by simp at hl
 |_::_,[],hl,_=>by simp at hl
noncomputable def okS:Slot->Bool
 |.own _ ds=>aIf ds
 |.od _ _ ds=>aIf ds
 |.ox _ _=>false
 |_=>true
def Oth(sd:List Slot)(i:Nat):Prop:=∀ (k:Nat) (z:Slot),k≠i->sd[k]? =some z->okS z=true
variable {i:Nat}{l:BF}{xs:List V}
theorem StF.lend(S:StF K H₀ F H σ sd)(hs:sd[i]? =some (.own l ds))(hx:H l=some (.lst xs)):StF K H₀ (upd F l<|.lst xs) H σ (sd.set i (.val<|.lst ds)):=by obtain⟨o,h1,h2,n,ys,q,rl⟩:=S.slots.get hs;rw[hx] at q;cases q;have S0:=S.le<|fN sd i;obtain⟨S1,s1⟩:=S0.freeze hx n<|nJ S.nd hs;have S2:=S1.set (d:=.lst ds) (v:=.ref l) i (by simp only[Rep];exact⟨l,xs,rfl,bM,rl.mono s1⟩);rw[gS,jH<|by rw[h1,h2]] at S2;exact S2
theorem StF.back(S:StF K H₀ F H σ sd)(hs:sd[i]? =some (.own l ds))(hx:H l=some (.lst xs))(ho:Oth sd i)(S':StF K H₀ F' H' σ (sd.set i (.val<|.lst ds)))(s:Same (upd F l<|.lst xs) F'):StF K H₀ (del F' l) H' σ sd/\Same F (del F' l)/\F' l=some (.lst xs):=by
 obtain⟨o,h1,h2,n,ys,q,rl⟩:=S.slots.get hs;rw[hx] at q;cases q;have fl:F' l=some (.lst xs):=s _ _ bM
 have sF:Same F (del F' l):=λb u e=>by have ne:b≠l:=bX e n;rw[uD ne];exact s _ _ (by rw[bD ne];exact e)
 refine⟨⟨λb u e=>sF _ _<|S.base _ _ e,λb u e=> ?_,S'.smp, ?_,S.nd⟩,sF,fl⟩
 ·by_cases h:b=l
  ·subst h;rw[aAe] at e;cases e
  ·rw[uD h] at e;exact S'.sub _ _ e
 ·refine zM S.slots.len λk z hz=> ?_
  by_cases hk:k=i
  ·subst hk;rw[hs] at hz;cases hz;exact⟨o,h1,h2,aAe,xs,S'.sub _ _ fl,rl.mono sF⟩
  ·obtain⟨o1,g1,g2⟩:=S.slots.get hz;obtain⟨o2,g3,g4⟩:=S'.slots.get (i:=k) (z:=z) (by rw[gZ<|Ne.symm hk];exact hz);rw[g1] at g3;cases g3;refine⟨o1,g1, ?_⟩;cases z with
   |un=>trivial
   |val d=>obtain⟨v,e,r⟩:=g2;exact⟨v,e,r.mono sF⟩
   |gh d G=>obtain⟨v,e,r,g⟩:=g2;exact⟨v,e,r.mono sF,λF2 s2=>g F2<|sF.trans s2⟩
   |own l' ds'=>
    obtain⟨e,n',ys,q',rl'⟩:=g4
    have ne:l'≠l:=λe2=>by rw[e2,fl] at n';cases n'
    exact⟨e,by rw[uD ne];exact n',ys,q',RepL.del fl (ho k _ hk hz) rl'⟩
   |od l' ks ds'=>
    obtain⟨e,n',ys,q',ln,rl'⟩:=g4
    have ne:l'≠l:=λe2=>by rw[e2,fl] at n';cases n'
    exact⟨e,by rw[uD ne];exact n',ys,q',ln,RepL.del fl (ho k _ hk hz) rl'⟩
   |ox ls G=>exact absurd (ho k _ hk hz) (by simp[okS])
theorem PTd.lend(i:Nat){k:Bool}(hs:sd[i]? =some (.own l ds))(ho:Oth sd i)(h:PTd X (sd.set i (.val<|.lst ds)) e k):PTd X sd e k:=.mk λσ F H S=>by
 obtain⟨o,h1,h2,n,xs,q,rl⟩:=S.slots.get hs;refine(h σ _ H<|S.lend hs q).imp λv H' ⟨e,F',S',s'⟩=> ?_
 obtain⟨S2,s2,fl⟩:=S.back hs q ho S' s';exact⟨e,del F' l,S2,s2⟩
theorem PTd.cast{k k':Bool}(h:PTd X sd e k)(q:k=k'):PTd X sd e k':=q▸h
noncomputable def aKY:List Slot->Nat->Bool
 |[],_=>true
 |_::zs,0=>zs.all okS
 |z::zs,i+1=>okS z&&aKY zs i
theorem aIB:∀ {sd:List Slot}{i:Nat},aKY sd i=true->Oth sd i
 |[],_,_,k,y,_,hz=>by simp at hz
 |z::zs,0,h,k,y,hk,hz=>by
  cases k with
  |zero=>exact absurd rfl hk
  |succ k=>exact gC.mp (show zs.all okS=true from h) _ (aN<|by simpa using hz)
 |z::zs,i+1,h,k,y,hk,hz=>by
  have h':(okS z&&aKY zs i)=true:=h;rw[bG] at h';cases k with
  |zero=>
   have:z=y:=by simpa using hz
   subst this;exact h'.1
  |succ k=>exact aIB h'.2 k y (λq=>hk<|by rw[q]) (by simpa using hz)
theorem aEN(i j:Nat){x y:Str}{p q:Pos}(hs:sd[j]? =some (.own l ds))(hN:X.N.Nodup)(hi:X.N[i]? =some x)(hx:Loc X.env.scope x)(hy:PE X (.Name y q) (iX j))(hE:E.nx ((sd.set j .un).set i<|.own l ds))(hsw:AV (.Name y q) (some<|.Name x p) pos.line X.env=pure false:=by rfl)
  (hf:X.fn x=true\/X.env.scope.names.lookup x=some .local:=by first|exact .inl rfl|exact .inr rfl|assumption):PSd1 X sd (.Assign [.Name x p] (.Name y q) pos) E:=.mk λσ F H S=>
 (mK hN hi hx hy hsw hf).to (by
  obtain⟨o,h1,h2,n,xs,g,rl⟩:=S.slots.get hs
  exact⟨.ref l,by rw[h1,h2],_,F,(S.le (fN sd j)).setO i n g rl (nJ S.nd hs),Same.refl _,hE⟩)
theorem aCV:kI X (.type "int") (λxs H Q=>∃k,xs=[.bl k]/\Q (.int (if k then 1 else 0)) H):=by intro pins s σ H xs us Q I r h;obtain⟨k,rfl,q⟩:=h;obtain⟨u,rfl,ru⟩:=rD r;cases(show u=Value.bool k from ru);exact call_int_bool ⟨.int _,H,I.kept λb o g=>g,⟨_,rfl⟩,q⟩
theorem aCd{p:Pos}{k:Bool}(hg:Gl X "int")(hm:X.mg "int"=none)(ha:PEd X sd e (.val<|.bl k))(hst:AC [e] X.env=(false,eval e X.env)::AC [] X.env:=by rfl):PEd X sd (.Call (.Name "int" p) [e] [] pos) (.val<|.int (if k then 1 else 0)):=
 vM (he:=hst) aCV hg hm PyProof.Rows.boot_int (aG ha aW trivial hst) λσ F H vs Q S q kk=>by
  cases q with
  |cons q1 q2=>cases q2;simp only[ResOk,Rep] at q1;subst q1;exact⟨k,rfl,kk _ F H S (Same.refl _)<|by simp only[ResOk,Rep]⟩
def aGb:List D->R->Prop:=λds r=>∃ (ns:List Int) (k:Nat),ds=[.scr ns,.int (k:Int)]/\k<=1000/\r=.val (.int<|ns.getD k 0)
noncomputable abbrev SQ:=Nat×Int×Int×Int
noncomputable def sqD(q:SQ):D:=hV q.1 q.2.1 q.2.2.1 q.2.2.2
structure oW(p:Int×Int)(q:SQ):Prop where
 sz:p∈cG
 k10:q.1<10
 i0:0<=q.2.1/\q.2.1<p.2
 j0:0<=q.2.2.1/\q.2.2.1<p.2
 n0:0<=q.2.2.2/\q.2.2.2<((2^p.1.toNat:Nat):Int)
theorem pw0(n:Nat):(0:Int)<((2^n:Nat):Int):=by have:0<2^n:=Nat.pow_pos (by decide);generalize 2^n=q at this ⊢;omega
noncomputable abbrev SK:=SQ×Int
noncomputable def skD(s:SK):D:=.tup [sqD s.1,.int s.2]
structure StkOk(p:Int×Int)(L:List SK):Prop where
 pos:0<L.length
 le:L.length<=8
 st:∀s∈L,oW p s.1/\1<=s.2/\s.2<=9
structure Fil(p:Int×Int)(ws:List Int):Prop where
 len:ws.length=p.2.toNat
 wd:∀w∈ws,0<=w/\w<((2^p.1.toNat:Nat):Int)
noncomputable def nwQ(p:Int×Int)(q:SQ)(ws:List Int):Int:=newW q.1 ((2^p.1.toNat:Nat):Int) (ws.getD q.2.1.toNat 0) (ws.getD q.2.2.1.toNat 0) q.2.2.2
noncomputable def onQ(p:Int×Int)(q:SQ)(ws:List Int):List Int:=ws.set q.2.1.toNat<|nwQ p q ws
theorem aHS{p:Int×Int}{q:SQ}{ws:List Int}(O:oW p q)(G:Fil p ws):0<=nwQ p q ws/\nwQ p q ws<((2^p.1.toNat:Nat):Int):=by obtain⟨h1,h2,h3,h4,h5⟩:=uX p O.sz;exact aEG (by omega) O.k10 (G.wd _ (getD_mem<|by have:=O.i0;rw[G.len];omega)) (G.wd _ (getD_mem<|by have:=O.j0;rw[G.len];omega)) O.n0
theorem wO{p:Int×Int}{q:SQ}{ws:List Int}(O:oW p q)(G:Fil p ws):Fil p (onQ p q ws):=by
 refine⟨by unfold onQ;rw[aIj];exact G.len,λw hw=> ?_⟩
 rcases List.mem_or_eq_of_mem_set hw with hw|rfl
 ·exact G.wd w hw
 ·exact aHS O G
theorem yM{p:Int×Int}(hp:p∈cG){ws:List Int}(h:ws∈gJ (2^p.1.toNat) p.2.toNat):Fil p ws:=by
 have g:∀ (m k:Nat),∀s∈gJ m k,s.length=k/\∀x∈s,0<=x/\x<(m:Int):=λm k=>by
  induction k with
  |zero=>
   intro s h;have:s=[]:=by simpa[gJ] using h
   subst this;exact⟨rfl,λx hx=>by cases hx⟩
  |succ k ih=>
   intro s h;obtain⟨t,ht,hs⟩:=cW.mp h;obtain⟨w,hw,rfl⟩:=aX.mp hs;obtain⟨a,b⟩:=ih t ht;refine⟨by rw[aM,a];rfl,λx hx=> ?_⟩
   rcases aK.mp hx with hx|hx
   ·exact b x hx
   ·have e:x=(w:Int):=by simpa using hx
    have:=dU.mp hw;omega
 obtain⟨a,b⟩:=g _ _ ws h;exact⟨a,b⟩
noncomputable def cN(row:List Nat):List D:=row.map λ(t:Nat)=>D.int (t:Int)
mutual
theorem zF:∀d:D,pl d=true->deq d d=true
 |.non,_=>rfl
 |.bl b,_=>by simp[deq]
 |.int i,_=>by simp[deq]
 |.str x,_=>by simp[deq]
 |.tup ds,h=>by simp only[deq];exact nE ds (by simpa only[pl] using h)
 |.lst ds,h=>by simp only[deq];exact nE ds (by simpa only[pl] using h)
 |.dic,h=>by simp[pl] at h
 |.dki _ _,h=>by simp[pl] at h
 |.any _,h=>by simp[pl] at h
 |.scr _,h=>by simp[pl] at h
theorem nE:∀ds:List D,plL ds=true->kB ds ds=true
 |[],_=>rfl
 |d::ds,h=>by simp only[plL,bG] at h;simp only[kB,bG];exact⟨zF d h.1,nE ds h.2⟩
end
theorem aJP{L:List SK}{t:Nat}(h:t<L.length):(L.map skD)[t]? =some (skD<|L.getD t AR):=by rw[bB];simp[cP,h]
theorem mP(L:List (List Int))(m:Nat):(L.flatMap λs=>(bQ m).map λ(w:Nat)=>s++[(w:Int)]).length=L.length*m:=by
 induction L with
 |nil=>simp
 |cons s L ih=>rw[List.flatMap_cons,aM,ih,aB,eY,bL,aDn,Nat.add_comm]
theorem sJ:∀ (m k:Nat),(gJ m k).length=m^k
 |_,0=>rfl
 |m,k+1=>by show((gJ m k).flatMap _).length=_;rw[mP,sJ m k,aMg]
theorem uH:∀ (m k:Nat),∀s∈gJ m k,s.length=k
 |_,0,s,h=>by
  have:s=[]:=by simpa[gJ] using h
  subst this;rfl
 |m,k+1,s,h=>by obtain⟨t,ht,hs⟩:=cW.mp h;obtain⟨w,_,rfl⟩:=aX.mp hs;rw[aM,uH m k t ht];rfl
theorem wF:∀p∈cG,∀k,k<p.2.toNat->((2^p.1.toNat)^k)*2^p.1.toNat<=900:=by decide+kernel
theorem lU{p:Int×Int}(hp:p∈cG):(gJ (2^p.1.toNat) p.2.toNat).length<=64:=by
 have:∀p∈cG,(2^p.1.toNat)^p.2.toNat<=64:=by decide+kernel
 rw[sJ];exact this p hp
theorem yX{L:List (List Int)}(h:d∈L.map bK):∃ws∈L,d=bK ws:=by obtain⟨ws,hw,rfl⟩:=aX.mp h;exact⟨ws,hw,rfl⟩
noncomputable def oE:D->List Int
 |.tup ds=>ds.map λd=>match d with | .int i=>i|_=>0
 |_=>[]
theorem lV(ws:List Int):oE (bK ws)=ws:=by
 show(ws.map D.int).map _=ws;rw[bH]
 induction ws with
 |nil=>rfl
 |cons w ws ih=>rw[aV,ih];rfl
theorem aLA{u d n c:Nat}(h:u+n<c)(hd:d+1<=n):u+d+1<c:=by omega
noncomputable def cX(p:Int×Int):List (List Int):=gJ (2^p.1.toNat) p.2.toNat
theorem aGO{V:List (List Int)}{k:Nat}(h:k<V.length):(V.map bK)[k]? =some (bK<|V.getD k []):=by simp[cP,h]
theorem aCC(d:D)(ds:List D)(p1:pl d=true)(p2:plL ds=true)(hu:X.A.units+1+iY ds<AQ):OpR X (Ad .NotIn) (λx y H Q=>Rep X.K H (.lst ds) y/\Rep X.K H d x/\Q (.bl<|!ds.any λz=>deq z d) H):=by
 intro pins s σ H x y v u Q I rx ry h;obtain⟨hl,hd,k⟩:=h;obtain⟨a,xs,its,rfl,rfl,rl,rv,ht⟩:=kK I.hok hl ry
 have hat:∀ (j:Nat) (w:BD),its[j]? =some w->∃z v,ds[j]? =some z/\xs[j]? =some v/\Rep X.K H z v/\RelV v w:=λj w hw=>by
  have hj:j<its.length:=(aF.mp hw).1;have hx:j<xs.length:=by rw[Vals.length rv];exact hj
  have hd:j<ds.length:=by rw[<-rl.len];exact hx
  obtain⟨v,hv,rz⟩:=rl.get (i:=j) (d:=ds[j]) (by simp[hd])
  exact ⟨ds[j],v,by simp [hd],hv,rz,by
   have:=rv.get hv;obtain⟨w',hw',r⟩:=this;rw[hw] at hw';cases hw'
   exact r⟩
 have dc:=λw:BD=>Classical.propDecidable (∃ (j:Nat) (z:D),its[j]? =some w/\ds[j]? =some z/\deq z d=true)
 refine SeqAt.notIn_listAt (λw=> @decide _<|dc w) ht (λw hw=> ?_) ⟨.bl _,H,I,rfl, ?_⟩
 ·by_cases q:∃ (j:Nat) (z:D),its[j]? =some w/\ds[j]? =some z/\deq z d=true
  ·obtain⟨j,z,e1,e2,e3⟩:=q;obtain⟨z',v,f1,f2,f3,f4⟩:=hat j w e1;rw[e2] at f1;cases f1;have: @decide _ (dc w)=true:=by rw[decide_eq_true_eq];exact⟨j,z,e1,e2,e3⟩
   rw[this,<-e3];exact xA I.hok z (xU p2 e2) p1 f3 hd f4 rx (by have:=sR e2;show X.A.units+1+dep z<AQ;omega)
  ·have hw':w∈its:=by simpa using hw
   obtain⟨j,hj,rfl⟩:=fE hw';obtain⟨z,v,f1,f2,f3,f4⟩:=hat j its[j] (by simp[hj])
   have e3:deq z d=false:=by
    cases h:deq z d with
    |false=>rfl
    |true=>exact(q ⟨j,z,by simp[hj],f1,h⟩).elim
   have: @decide _ (dc its[j])=false:=by rw[decide_eq_false_iff_not];exact q
   rw[this,<-e3];exact xA I.hok z (xU p2 f1) p1 f3 hd f4 rx (by have:=sR f1;show X.A.units+1+dep z<AQ;omega)
 ·have e:its.toArray.any (λw=> @decide _<|dc w)=ds.any λz=>deq z d:=by
   rw[iQ,List.any_toArray,aIb,aIb]
   constructor
   ·rintro⟨w,hw,q⟩;rw[decide_eq_true_eq] at q;obtain⟨j,z,e1,e2,e3⟩:=q;exact⟨z,aN e2,e3⟩
   ·rintro⟨z,hz,e3⟩;obtain⟨j,hj,rfl⟩:=fE hz;have hi:j<its.length:=by rw[<-Vals.length rv,rl.len];exact hj
    exact⟨its[j],hZ hi,by rw[decide_eq_true_eq];exact⟨j,ds[j],by simp[hi],by simp[hj],e3⟩⟩
  rw[e];exact k
theorem aDZ(ha:PEd X sd a (.val d))(hb:PEd X sd b (.val<|.lst ds))(p1:pl d=true)(p2:plL ds=true)(hu:X.A.units+1+iY ds<AQ)(hk:Ab .NotIn b=false:=by with_unfolding_all rfl):PTd X sd (.Compare a [.NotIn] [b] pos) (!ds.any λz=>deq z d):=
 pW (aCC d ds p1 p2 hu) ha hb trivial hk λσ F H x u Q S q1 q2 k=>⟨Rep.mono S.sub q2,Rep.mono S.sub q1,k F H S<|Same.refl _⟩
variable {es:List D}
theorem RepL.atI{i:Int}(r:RepL K H ds xs)(h:L2.atI ds i=some d):∃v,L2.atI xs i=some v/\Rep K H d v:=by
 unfold L2.atI at h ⊢;rw[r.len];cases e:ixN ds.length i with
 |none=>rw[e] at h;cases h
 |some j=>rw[e] at h;exact r.get h
theorem aGw{i:Int}(ha:PEd X sd a (.bor ds))(hb:PEd X sd b (.val<|.int i))(hd:atI ds i=some d)(hs:lP b):PEd X sd (.Subscript a b pos) (.val d):=.mk λσ F H S=>
 (aDy xW fG fG hs).to ((ha σ F H S).imp fun v H1 ⟨F1,S1,s1,q1⟩=>(hb σ F1 H1 S1).imp fun u H2 ⟨F2,S2,s2,q2⟩=>by
  obtain⟨p,xs,e1,hp,rl,_⟩:=ResOk.keep (r:=.bor ds) trivial q1 S2 s2;simp only[ResOk,Rep] at q2;obtain⟨w,hw,rw'⟩:=rl.atI hd
  exact⟨p,xs,i,w,e1,q2,.of hp,hw,F2,S2,s1.trans s2,rw'⟩)
theorem aJi{τ:List Nat}{b:Nat}(h:b<τ.length):(cN τ)[b]? =some (.int ((τ.getD b 0:Nat):Int)):=by unfold cN;rw[bB];simp[cP,h]
theorem xC{k:Nat}{q:Nat}{p:Pos}(hb:PEd X sd b (.val<|.int (k:Int)))(hk:k<=1000):PEd X sd (.BinOp (.Constant (.int 1) q p) .LShift b pos) (.val<|.int ((2^k:Nat):Int)):=
 PEd.ic (dP aFx bW hb ⟨by omega,by omega,by decide⟩) (by rw[Int.one_mul,dM];push_cast;rfl)
theorem uC:∀ {sd:List Slot}{i:Nat}{z:Slot},(bV sd).Nodup->sd[i]? =some z->(fU z).Nodup
 |[],_,_,_,e=>by simp at e
 |y::zs,0,z,h,e=>by
  have:y=z:=by simpa using e
  subst this;exact(aY.mp (show(fU y++bV zs).Nodup from h)).1
 |y::zs,i+1,z,h,e=>uC (sd:=zs) (i:=i) (aY.mp (show(fU y++bV zs).Nodup from h)).2.1 (by simpa using e)
variable {ls:List BF}{nss:List (List Int)}
theorem StF.setX{as:List BF}{G:V->Hp->Hp->Prop}(S:StF K H₀ F H σ sd)(i:Nat)(q:fY K F H (.ox as G) (some v))(nd:as.Nodup)(no:∀a∈as,a∉bV sd):StF K H₀ F H (σ.set i (some v)) (sd.set i<|.ox as G):=
 ⟨S.base,S.sub,S.smp,S.slots.set (z:=.ox as G) q i,(gT (z:=.ox as G) i S.nd (λl e=>.inl<|no l e) nd).1⟩
theorem StF.reX{z z':Slot}{o:Option V}(S:StF K H₀ F H σ sd)(hs:sd[i]? =some z)(ho:σ[i]? =some o)(keep:∀b ob,b∉fU z->H b=some ob->H' b=some ob)(sm:Smp H')(q:fY K F H' z' o)(nd:(fU z').Nodup)(no:∀a∈fU z',a∈fU z\/a∉bV sd):StF K H₀ F H' σ (sd.set i z'):=by
 have S0:=S.le<|fN sd i;have mz:∀a∈fU z,a∈bV sd:=λa ha=>cW.mpr ⟨z,aN hs,ha⟩
 refine⟨S.base,λb u e=> ?_,sm, ?_, ?_⟩
 ·refine keep b u (λhb=> ?_)<|S.sub _ _ e;have:=(S.slots.owns<|mz b hb).1;rw[e] at this;cases this
 ·have q1:SlotsOk K F H' (sd.set i .un) σ:=S0.slots.mono (Same.refl _) λa ha=>⟨(S0.slots.owns ha).1,λob e=>keep a ob (λhb=>gF S.nd hs hb ha) e⟩
  have q2:=q1.set (z:=z') (o:=o) q i;rw[gS,jH ho] at q2;exact q2
 ·have:=gT (z:=z') i S0.nd (fun a ha=>by
   rcases no a ha with h|h
   ·exact .inl<|gF S.nd hs h
   ·exact .inl λhm=>h ((fN sd i).own.subset hm)) nd
  rw[gS] at this;exact this.1
noncomputable def inF(F H:Hp)(as:List BF):Hp:=λb=>if b∈as then H b else F b
theorem aBd{as:List BF}{b:BF}(h:b∈as):inF F H as b=H b:=if_pos h
theorem xP{as:List BF}{b:BF}(h:b∉as):inF F H as b=F b:=if_neg h
theorem aHm{as:List BF}(h:∀a∈as,F a=none):Same F (inF F H as):=λb u e=>by rw[xP λhb=>by rw[h b hb] at e;cases e];exact e
theorem StF.inN(S:StF K H₀ F H σ sd)(h0:∀a∈l::ls,F a=none)(no:∀a∈l::ls,a∉bV sd):StF K H₀ (inF F H (l::ls)) H σ sd/\Same F (inF F H (l::ls)):=by
 have s1:=aHm (H:=H) h0;refine⟨⟨λb u e=>s1 _ _<|S.base _ _ e,λb u e=> ?_,S.smp,S.slots.mono s1 λa ha=>⟨?_,λob e=>e⟩,S.nd⟩,s1⟩
 ·by_cases h:b∈l::ls
  ·rw[aBd h] at e;exact e
  ·rw[xP h] at e;exact S.sub _ _ e
 ·rw[xP λhb=>no a hb ha];exact(S.slots.owns ha).1
variable {es:List Expr}{ns:List Int}
theorem aHX(h:Smp H)(a:BF):Smp (upd H a<|.lst xs):=λb u e=>by
 by_cases z:b=a
 ·subst z;rw[bM] at e;cases e;trivial
 ·rw[bD z] at e;exact h _ _ e
noncomputable def isA(a:BF):Slot:=.ox [] λv _ _=>v=.ref a
theorem yG{j:Nat}{a:BF}(S:StF K H₀ F H σ sd)(hs:sd[j]? =some (isA a)):σ[j]? =some (some<|.ref a):=by
 obtain⟨o,h1,v,h2,h3,h4⟩:=S.slots.get hs;have e:=h4 F H (Same.refl _) λ_ _ _ q=>q
 subst e h2;exact h1
noncomputable def InD(K:aA)(F H:Hp):List BF->List (List D)->Prop
 |[],[]=>True
 |a::as,ds::dss=>(∃xs,H a=some (.lst xs)/\RepL K F ds xs)/\InD K F H as dss
 |_,_=>False
theorem InD.len:∀ {as:List BF}{dss:List (List D)},InD K F H as dss->as.length=dss.length
 |[],[],_=>rfl
 |[],_::_,h=>h.elim
 |_::_,[],h=>h.elim
 |_::as,_::dss,h=>by rw[bL,bL,InD.len h.2]
theorem InD.of:∀ {as:List BF}{dss:List (List D)},InD K F H as dss->∀a∈as,∃xs,H a=some (.lst xs)
 |[],[],_,a,ha=>by cases ha
 |[],_::_,h,_,_=>h.elim
 |_::_,[],h,_,_=>h.elim
 |b::as,_::dss,h,a,ha=>by
  rcases aR.mp ha with rfl|ha
  ·exact⟨h.1.choose,h.1.choose_spec.1⟩
  ·exact InD.of h.2 a ha
variable {dss:List (List D)}
theorem InD.mono2:∀ {as:List BF}{dss:List (List D)},InD K F H as dss->Same F F'->(∀a∈as,∀ob,H a=some ob->H' a=some ob)->InD K F' H' as dss
 |[],[],_,_,_=>trivial
 |[],_::_,h,_,_=>h.elim
 |_::_,[],h,_,_=>h.elim
 |a::as,_::dss,h,s,k=>by obtain⟨⟨xs,e,r⟩,h2⟩:=h;exact⟨⟨xs,k a aE _ e,r.mono s⟩,InD.mono2 h2 s λb hb=>k b<|aC _ hb⟩
theorem InD.get:∀ {as:List BF}{dss:List (List D)}{t:Nat}{a:BF},InD K F H as dss->as[t]? =some a->∃ds xs,dss[t]? =some ds/\H a=some (.lst xs)/\RepL K F ds xs
 |[],[],t,a,_,e=>by simp at e
 |[],_::_,_,_,h,_=>h.elim
 |_::_,[],_,_,h,_=>h.elim
 |b::as,ds::dss,0,a,h,e=>by
  have:b=a:=by simpa using e
  subst this;obtain⟨⟨xs,e1,r⟩,_⟩:=h;exact⟨ds,xs,rfl,e1,r⟩
 |b::as,ds::dss,t+1,a,h,e=>by obtain⟨ms,xs,e1,e2⟩:=InD.get (t:=t) h.2 (by simpa using e);exact⟨ms,xs,by simpa using e1,e2⟩
theorem InD.set:∀ {as:List BF}{dss:List (List D)}{t:Nat}{a:BF}{es:List D}{ys:List V},as.Nodup->InD K F H as dss->as[t]? =some a->RepL K F es ys->InD K F (upd H a<|.lst ys) as (dss.set t es)
 |[],[],t,a,_,_,_,_,e,_=>by simp at e
 |[],_::_,_,_,_,_,_,h,_,_=>h.elim
 |_::_,[],_,_,_,_,_,h,_,_=>h.elim
 |b::as,ds::dss,0,a,es,ys,nd,h,e,r=>by
  have:b=a:=by simpa using e
  subst this;refine⟨⟨ys,bM,r⟩,h.2.mono2 (Same.refl _) λc hc ob q=> ?_⟩;rw[bD (show c≠b from λz=>(bA.mp nd).1<|z▸hc)];exact q
 |b::as,ds::dss,t+1,a,es,ys,nd,h,e,r=>by
  have e':as[t]? =some a:=by simpa using e
  obtain⟨⟨xs,e1,r1⟩,h2⟩:=h;refine⟨⟨xs, ?_,r1⟩,InD.set (bA.mp nd).2 h2 e' r⟩;rw[bD (show b≠a from λz=>(bA.mp nd).1<|z▸aN e')];exact e1
theorem zU{α:Type}(f:α->D)(h:∀a,pl (f a)=true):∀l:List α,plL (l.map f)=true
 |[]=>rfl
 |a::l=>by show(pl (f a)&&plL (l.map f))=true;rw[h a,zU f h l];rfl
theorem wC{α:Type}(f:α->D)(n:Nat)(h:∀a,dep (f a)<=n):∀l:List α,iY (l.map f)<=n
 |[]=>bJ _
 |a::l=>Nat.max_le.mpr ⟨h a,wC f n h l⟩
theorem tS:∀a:List Nat,plL (cN a)=true/\iY (cN a)=0
 |[]=>⟨rfl,rfl⟩
 |a::as=>by obtain⟨h1,h2⟩:=tS as;unfold cN at h1 h2 ⊢;simp only[aV,plL,iY,pl,dep,h1,h2];exact⟨rfl,rfl⟩
theorem aDI(h:BH)(vs:List BD)(out:Array BD):(∀b x,h.get? b=some x->(sortedAll h vs out).get? b=some x)/\∃n,(sortedAll h vs out).get? (h.objs.size+1)=some (Af "list" out n):=by
 have hsz:((h.push<|Af "list" #[] 0).update h.objs.size (Obj.mapSeq (·++vs.toArray))).objs.size=h.objs.size+1:=by rw[mE,size_push']
 have hoL:(((h.push<|Af "list" #[] 0).update h.objs.size (Obj.mapSeq (·++vs.toArray))).push<|Af "list" vs.toArray 0).get? (h.objs.size+1)=some (Af "list" vs.toArray 0):=by rw[<-hsz];exact bO _ rfl
 constructor
 ·intro b x g;have lt:=aP g;have n1:h.objs.size≠b:=λz=>absurd lt (by rw[z];exact eE _)
  have n2:h.objs.size+1≠b:=λz=>absurd lt (by rw[<-z];exact mV.mpr<|hX _)
  unfold sortedAll sortedHeap;rw[cB _ _ n2];refine aJ _<|aJ _ ?_;rw[cB _ _ n2];refine aJ _ ?_;rw[cB _ _ n1];exact aJ _ g
 ·obtain⟨n1,g1⟩:∃n1,((((h.push<|Af "list" #[] 0).update h.objs.size (Obj.mapSeq (·++vs.toArray))).push<|Af "list" vs.toArray 0).update (h.objs.size+1)<|Obj.mapSeq λ_=> #[]).get? (h.objs.size+1)=some (Af "list" #[] n1):=⟨_,get?_update_seq hoL λ_=> #[]⟩;exact⟨_,get?_update_seq (aJ _<|aJ _ g1) λ_=>out⟩
noncomputable def exO(l:BF)(o:BI):HO:=.ext λh=>h.get? l=some o
theorem tY{h:BH}{o:BI}(g:h.get? l=some o):ObjOk P w H h l (exO l o):=⟨g,⟨o,g⟩,λ_ _ q k=>k _ q⟩
def TDo(P:AF)(w:AM)(F:Hp)(l:BF)(o:BI)(kvs:List (List Key×V)):Prop:=
 kvs.length<=AL/\(l==AU)=false/\∃xs,KT F kvs xs/\∃es ep,o.ExactDict/\o.data=.dict es ep/\es.toList=xs.map (entryOfKey (AN<|dG P w))/\(xs.map (·.1)).Nodup
theorem TDo.mono{o:BI}{kvs:List (List Key×V)}(t:TDo P w F l o kvs)(s:Same F F'):TDo P w F' l o kvs:=by obtain⟨z,y,xs,r,q⟩:=t;exact⟨z,y,xs,r.keeps λb ys e=>s _ _ e,q⟩
theorem KT.all{h:BH}(ok:HOk P w H h){l:List (List Key×V)}{m:List (List Key×BF×BD)}(q:KT H l m):∀x∈m,(AN<|dG P w).is h x.1 x.2.1:=by
 induction q with
 |nil=>intro x hx;exact nomatch hx
 |@cons p q ps qs hq t ih=>
  intro x hx
  rcases aR.mp hx with e|hx
  ·subst e;exact lH ok (by rw[<-hq.1];exact hq.2.1)
  ·exact ih x hx
noncomputable def kD:Key->D
 |.inl i=>.int i
 |.inr x=>.str x
theorem mS{K:aA}{F:Hp}:∀ {k:List Key}{xs:List V},RepL K F (k.map kD) xs->xs=k.map kV
 |[],xs,r=>by simpa only[dJ,RepL] using r
 |a::k,xs,r=>by
  rw[aV] at r;obtain⟨y,ys,rfl,q,rl⟩:=r.uncons;rw[mS rl,aV];congr 1;cases a with
  |inl i=>simp only[kD,Rep] at q;exact q
  |inr x=>simp only[kD,Rep] at q;exact q
theorem qS{α β:Type}{xs:List α}{ys:List β}(h:xs.length=ys.length)(x:α)(y:β):(xs++[x]).zip (ys++[y])=xs.zip ys++[(x,y)]:=by rw[aIk h];rfl
theorem vX{ks:List (List Key)}{k:List Key}(hk:k∉ks):∀ {ks':List (List Key)}{xs:List V},(∀j∈ks',j∈ks)->eK (ks'.zip xs) k=none
 |[],_,_=>rfl
 |_::_,[],_=>rfl
 |j::js,x::xs,h=>by rw[dA,eM (p:=(j,x)) (k:=k) (λe=>hk<|(show j=k from e)▸h j aE)];exact vX hk λi hi=>h i<|aC _ hi
theorem sN:∀ {sd:List Slot}{i:Nat}{z:Slot},(bV sd).Nodup->sd[i]? =some z->(fU z).Nodup
 |[],_,_,_,e=>by simp at e
 |y::zs,0,z,h,e=>by
  have:y=z:=by simpa using e
  subst this;exact(aY.mp (show(fU y++bV zs).Nodup from h)).1
 |y::zs,i+1,z,h,e=>sN (sd:=zs) (i:=i) (aY.mp (show(fU y++bV zs).Nodup from h)).2.1 (by simpa using e)
variable {ks:List (List Key)}
theorem StF.setT{as:List BF}{G:V->Hp->Hp->Prop}(S:StF K H₀ F H σ sd)(i:Nat)(q:fY K F H (.ox as G) (some v))(nd:as.Nodup)(no:∀a∈as,a∉bV sd):StF K H₀ F H (σ.set i (some v)) (sd.set i<|.ox as G):=
 ⟨S.base,S.sub,S.smp,S.slots.set (z:=.ox as G) q i,(gT (z:=.ox as G) i S.nd (λl e=>.inl<|no l e) nd).1⟩
theorem StF.reT{z z':Slot}{o:Option V}(S:StF K H₀ F H σ sd)(hs:sd[i]? =some z)(ho:σ[i]? =some o)(keep:∀b ob,b∉fU z->H b=some ob->H' b=some ob)(sm:Smp H')(q:fY K F H' z' o)(nd:(fU z').Nodup)(no:∀a∈fU z',a∈fU z\/a∉bV sd):StF K H₀ F H' σ (sd.set i z'):=by
 have S0:=S.le<|fN sd i;have mz:∀a∈fU z,a∈bV sd:=λa ha=>cW.mpr ⟨z,aN hs,ha⟩
 refine⟨S.base,λb u e=> ?_,sm, ?_, ?_⟩
 ·refine keep b u (λhb=> ?_)<|S.sub _ _ e;have:=(S.slots.owns<|mz b hb).1;rw[e] at this;cases this
 ·have q1:SlotsOk K F H' (sd.set i .un) σ:=S0.slots.mono (Same.refl _) λa ha=>⟨(S0.slots.owns ha).1,λob e=>keep a ob (λhb=>gF S.nd hs hb ha) e⟩
  have q2:=q1.set (z:=z') (o:=o) q i;rw[gS,jH ho] at q2;exact q2
 ·have:=gT (z:=z') i S0.nd (fun a ha=>by
   rcases no a ha with h|h
   ·exact .inl<|gF S.nd hs h
   ·exact .inl λhm=>h ((fN sd i).own.subset hm)) nd
  rw[gS] at this;exact this.1
theorem kZ{o:BI}(h:Smp H)(a:BF):Smp (upd H a<|exO a o):=λb u e=>by
 by_cases z:b=a
 ·subst z;rw[bM] at e;cases e;trivial
 ·rw[bD z] at e;exact h _ _ e
variable {k:List Key}
noncomputable def aDw:BI:={cls:=.type "dict",data:=.dict #[]}
theorem zK:PE X (.Dict [] [] pos) (λ_ H Q=>∀p,H p=none->(p==AU)=false->Q (.ref p) (upd H p<|exO p aDw)):=λpins s σ H Q I h=>wpAny_Dict_empty ⟨.ref s.heap.objs.size,_,I.laid (a:=s.heap.objs.size) (o:=exO s.heap.objs.size aDw) (t':=s.toks) (λ_ _ q=>aJ _ q) (aO _) (tY<|bO _ rfl),rfl,h _ (I.hok.fresh<|aO _)<|beq_eq_false_iff_ne.mpr (Ne.symm<|bN I.big)⟩
section
variable {prog:AF}{w:AM}{K:Type}[DecidableEq K]{knd:HeapKind prog w K}{A:BG}{E:BD->BE->Prop}{s:BE}
theorem nV{d a:BF}{xs:List (K×BF×BD)}{k:K}{v:BD}{Q:BD->BE->Prop}(hu:knd.room A)(hkey:knd.is s.heap k a)(hm:s.heap.DictOfH knd d xs)
  (hold:∀u,(atKey xs k).map (·.2)=some u->Q u {s with toks:=s.toks+knd.draws k})
  (hnew:atKey xs k=none->∀h',h'.DictOfH knd d (storedH xs k a v)->Heap.SameBut d s.heap h'->Q v {s with heap:=h',toks:=s.toks+knd.draws k})
  (hsz:xs.length<=AL):
  AK (AH prog w) A (dictSetDefault d (.ref a) v) Q E s:=by
 obtain⟨o,es,ep,ho,hc,hd,he,his,hn⟩:=hm;unfold dictSetDefault
 try with_reducible refine Ag ?_
 refine AA<|knd.pyHash hu hkey ?_;refine AA<|wpAny_dictFind_heap (s:={s with toks:=s.toks+knd.draws k}) hu hkey ho hd he his hn ?_ ?_
 ·intro hno;have hnot:k∉xs.map (·.1):=not_mem_keys_of_get hno
  refine AA (At (AA (wpAny_updateDictKeys (hz:=by have e:=Av he; omega) (s:={s with toks:=s.toks+knd.draws k}) ho hd (AB (hnew (atKey_none_of_get hno) _ ⟨_,_,ep+1,fM _ ho (Obj.isFreed_of_dict (Obj.data_mapDictKeys hd _)),
   hc.mapDictKeys _,Obj.data_mapDictKeys hd _, ?_, ?_, ?_⟩ (Heap.SameBut.update ..))))))
  ·rw[storedH_new<|atKey_none_of_get hno];simp[he,entryOfKey]
  ·rw[storedH_new<|atKey_none_of_get hno];intro x hx
   rcases aK.mp hx with hx|hx
   ·exact knd.keeps (his x hx) ho hd<|Heap.SameBut.update ..
   ·simp only[aD] at hx;subst hx;exact knd.keeps hkey ho hd<|Heap.SameBut.update ..
  ·rw[storedH_new<|atKey_none_of_get hno];rw[aU,aY];refine⟨hn,by simp, ?_⟩;intro x hx y hy;simp only[aV,dJ,aD] at hy;subst hy;exact λe=>hnot<|e▸hx
 ·intro j p hj;refine AA<|Aj (s:={s with toks:=s.toks+knd.draws k}) ho hd ?_;rw[entry_at he j,hj];have:=hold p.2 (by rw[atKey_of_get hn hj];rfl);exact AA (At<|AB this)
end
section
variable {prog:AF}{w:AM}{K:Type}[DecidableEq K](knd:HeapKind prog w K)(d a:BF)
theorem oU(hd:(d==AU)=false)(dflt:BD):
  MeetsIn prog w (Builtin.«dict.setdefault» ⟨[.ref d, .ref a,dflt],[]⟩) (fun A R s=>knd.room A.in1∧∃k xs,knd.is s.heap k a∧s.heap.DictOfH knd d xs∧xs.length≤AL∧
   (∀u,(atKey xs k).map (·.2)=some u->R (.ok<|.ret u) {s with toks:=s.toks+knd.draws k})/\
   (atKey xs k=none->∀h',h'.DictOfH knd d (storedH xs k a dflt)->Heap.SameBut d s.heap h'->R (.ok (.ret dflt)) {s with heap:=h',toks:=s.toks+knd.draws k})):=
 .of_wp λA R s ⟨hu,k,xs,hkey,hm,hz,h1,h2⟩=>by unfold Builtin.«dict.setdefault»;refine AA ?_;unfold Builtin.Dict.keyAndDefault;refine AA<|Ax hm.typeIs ?_;show AK _ _ (pure (d,Value.ref a,some dflt)) _ _ s;refine AB ?_;show AK _ _ (if(d==AU)=true then _ else(dictSetDefault d (.ref a) dflt>>=_)) _ _ s;rw[if_neg<|by rw[hd];exact aZ];exact AA<|nV (hsz:=hz) hu hkey hm (λv hv=>AB ⟨v,rfl,h1 v hv⟩) λhn h' hm' hs'=>AB ⟨dflt,rfl,h2 hn h' hm' hs'⟩
end
section
variable {X:Cx}{o e:Expr}{es:List Expr}{to:TE}{t:TA}{name:Str}{apos cpos:Pos}{id:String}{r:V->List V->Hp->VK->Prop}
theorem aIw(pa:PlainAttrs "dict")(slot:PySem.Slot "dict" name id)(hty:typeOf (.builtin id)=pure (.type "method_descriptor"))(hm:MtR X id r)(ho:PE X o to)(ha:PA X (e::es) t)
  (hbase:attributeBase o name X.env (eval o X.env)=eval o X.env:=by rfl)
  (hfew:((Ae cpos (AC (e::es) X.env)).all (fun x=> !x.1) && (backToKw cpos (keywordEach [] X.env)).all (fun x=>x.1.isSome)
  &&decide ((e::es).length+([]:List Keyword).length+(if([]:List Keyword).isEmpty then 0 else 1)<30))=true:=by rfl)
  (hline:(apos.endLine==cpos.line)=true:=by rfl) (hs:AC (e::es) X.env=(false,eval e X.env)::AC es X.env:=by rfl) (hplain:(Ae cpos<|AC es X.env).any (·.1)=false:=by rfl):
  PE X (.Call (.Attribute o name apos) (e::es) [] cpos) (λσ H Q=>to σ H λx H1=>(∃l ob,x=.ref l/\H1 l=some (exO l ob)/\ob.ExactDict)/\t σ H1 λxs H2=>r x xs H2 Q):=by
 intro pins s σ H Q I h;refine wpAny_Call_method_late hbase hfew hline rfl<|thn (ho pins s σ H _ I h) λv s1 ⟨x,H1,I1,r1,⟨l,ob,e1,e2,e3⟩,q1⟩=> ?_;subst e1;obtain rfl:v=Value.ref l:=r1;have hg:s1.heap.get? l=some ob:=(I1.hok l _ e2).1;refine⟨"dict",id,pa,slot,hty,⟨ob,hg,e3.1⟩,λa q=> ?_, ?_⟩
 ·cases q;exact⟨ob,hg,e3.2.1⟩
 have hA:=ha cpos pins s1 σ H1 _ I1 q1;rw[hs] at hA ⊢;refine Calls.callWith_builtin (by show(false||(Ae cpos<|AC es X.env).any (·.1))=false;rw[hplain]<;>rfl)<|Calls.evalArgs_plain ?_;exact thn hA λus s2 ⟨vs,H2,I2,r2,q2⟩=>hm pins s2 σ H2 (.ref l) vs (.ref l) us Q I2 rfl r2 q2
def rSD(X:Cx):V->List V->Hp->VK->Prop:=λx vs H Q=>∃ (F:Hp) (l ad:BF) (k:List Key) (y:V) (o:BI) (kvs:List (List Key×V)),x=.ref l/\vs=[.ref ad,y]/\Same F H/\H l=some (exO l o)/\F ad=some (.tup<|k.map kV)/\X.A.units+1<AQ/\
 TDo X.prog X.w F l o kvs/\kvs.length+1<=AL/\(∀z,eK kvs k=some z->Q z H)/\(eK kvs k=none->∀o',(∀v,o'.data≠ .cell v)->TDo X.prog X.w F l o' (kvs++[(k,y)])->Q y (upd H l<|exO l o'))
theorem aLo:MtR X "dict.setdefault" (rSD X):=by
 intro pins s σ H x vs v us Q I rx rv h;obtain⟨F,l,ad,k,y,o,kvs,rfl,rfl,sF,hl,ha,hu,⟨z,hm,ts,kt,es,ep,t1,t2,t3,t4⟩,hz1,q1,q2⟩:=h;obtain rfl:v=Value.ref l:=rx;cases rv with
 |cons r1 rv=>
  obtain⟨u,rfl,ru⟩:=Vals.one rv;rename_i b;obtain rfl:b=Value.ref ad:=r1;have ho:s.heap.get? l=some o:=(I.hok l _ hl).1;have ktH:KT H kvs ts:=kt.keeps λb ys e=>sF _ _ e
  have dd:s.heap.DictOfH (AN<|dG X.prog X.w) l ts:=⟨o,es,ep,ho,t1,t2,t3,KT.all I.hok ktH,t4⟩;have hz:ts.length<=AL:=by rw[<-Paired.length kt];exact z
  refine call_meetsIn gG dd.typeIs rK (qZ _ _ _) (oU (AN<|dG X.prog X.w) l ad hm u) ⟨Al hu,k,ts,lH I.hok<|sF _ _ ha,dd,hz,λw' hw=> ?_,λhn h' dd' hsm=> ?_⟩
  ·have rl:=ktH.val k;rw[hw] at rl;cases hv:eK kvs k with
   |none=>rw[hv] at rl;cases rl
   |some z'=>rw[hv] at rl;exact⟨z',H,I.tok _,rl,q1 z' hv⟩
  ·have hn':eK kvs k=none:=by
    have rl:=ktH.val k;rw[hn] at rl;cases hv:eK kvs k with
    |none=>rfl
    |some z'=>rw[hv] at rl;cases rl
   obtain⟨q,es',ep',hq,u2,u3,u4,_,u5⟩:=dd';have I4:=lO (t':=s.toks+(AN<|dG X.prog X.w).draws k) I (ob:=exO l q) (by rw[hl];exact True.intro) hsm ⟨q,hq⟩<|tY hq;have kt':=kt.put k ha ru;rw[mO y hn'] at kt';exact⟨y,_,I4,ru,q2 hn' q (λv z=>by rw[u3] at z;cases z) ⟨by rw[aM];exact hz1,hm,_,kt',es',ep',u2,u3,u4,u5⟩⟩
end
def Gg(P:AF)(w:AM)(K:aA)(l:BF)(ks:List (List Key))(ls:List BF)(dss:List (List D)):V->Hp->Hp->Prop:=λv F H=>v=.ref l/\(∃o,H l=some (exO l o)/\(∀v,o.data≠ .cell v)/\ks.length=ls.length/\TDo P w F l o (ks.zip<|ls.map V.ref))/\InD K F H ls dss
noncomputable def odG(P:AF)(w:AM)(K:aA)(l:BF)(ks:List (List Key))(ls:List BF)(dss:List (List D)):Slot:=.ox (l::ls)<|Gg P w K l ks ls dss
theorem vF:∀ {ks:List (List Key)}{xs:List V}{k:List Key}{z:V},eK (ks.zip xs) k=some z->∃n:Nat,ks[n]? =some k/\xs[n]? =some z
 |[],_,_,_,h=>by cases h
 |_::_,[],_,_,h=>by cases h
 |j::js,y::ys,k,z,h=>by
  rw[dA] at h
  by_cases e:j=k
  ·rw[fO (p:=(j,y)) e] at h;exact⟨0,by simp[e],by simpa using h⟩
  ·rw[eM (p:=(j,y)) (k:=k) e] at h;obtain⟨n,h1,h2⟩:=vF h;exact⟨n+1,by simpa using h1,by simpa using h2⟩
theorem aBK:∀ {ks:List (List Key)}{xs:List V}{k:List Key},ks.length=xs.length->eK (ks.zip xs) k=none->k∉ks
 |[],_,_,_,_=>by simp
 |_::_,[],_,h,_=>by cases h
 |j::js,y::ys,k,hl,h=>by
  rw[dA] at h
  by_cases e:j=k
  ·rw[fO (p:=(j,y)) e] at h;cases h
  ·rw[eM (p:=(j,y)) (k:=k) e] at h;have:=aBK (aFQ.inj hl) h;exact λhm=>(aR.mp hm).elim (λq=>e q.symm) this
theorem vL{z:Slot}(h:sd[i]? =some z):sd.set i z=sd:=by obtain⟨hi,e⟩:=aF.mp h;rw[<-e,aAQ]
theorem gM(S:StF K H₀ F H σ sd)(hs:sd[i]? =some (odG P w K l ks ls dss)):σ[i]? =some (some<|.ref l)/\(∀a∈l::ls,F a=none)/\(∃o,H l=some (exO l o)/\(∀v,o.data≠ .cell v)/\ks.length=ls.length/\TDo P w F l o (ks.zip<|ls.map V.ref))/\InD K F H ls dss/\(l::ls).Nodup:=by
 obtain⟨o,h1,v,h2,h3,h4⟩:=S.slots.get hs;obtain⟨e,q1,q2⟩:=h4 F H (Same.refl _) λ_ _ _ q=>q
 subst e h2;exact⟨h1,λa ha=>(h3 a ha).1,q1,q2,uC S.nd hs⟩
theorem sW{o:BI}(hF:∀a∈l::ls,F a=none)(h1:H l=some (exO l o))(nc:∀v,o.data≠ .cell v)(hl:ks.length=ls.length)(t:TDo P w F l o (ks.zip<|ls.map V.ref))(h2:InD K F H ls dss):fY K F H (odG P w K l ks ls dss) (some<|.ref l):=by
 refine⟨.ref l,rfl,λa ha=>⟨hF a ha, ?_⟩,λF' H' s k=>⟨rfl,⟨o,k _ aE _ h1,nc,hl,t.mono s⟩,h2.mono2 s λa ha=>k a<|aC _ ha⟩⟩
 rcases aR.mp ha with rfl|ha
 ·exact⟨_,h1,o,rfl,nc⟩
 ·obtain⟨xs,e⟩:=h2.of a ha;exact⟨.lst xs,e,trivial⟩
theorem StF.wrG{t:Nat}{a:BF}{es:List D}{ys:List V}(S:StF K H₀ F H σ sd)(hs:sd[i]? =some (odG P w K l ks ls dss))(ht:ls[t]? =some a)(r:RepL K F es ys):StF K H₀ F (upd H a<|.lst ys) σ (sd.set i (odG P w K l ks ls<|dss.set t es)):=by
 obtain⟨g1,g2,⟨o,g3,nc,hl,td⟩,g4,g5⟩:=gM S hs;obtain⟨n1,n2⟩:=bA.mp g5;have ma:=aN ht
 refine S.reX (z':=odG P w K l ks ls (dss.set t es)) hs g1 (fun b ob hb q=> ?_) (aHX S.smp a) (sW g2 (by
  rw[bD (show l≠a from λz=>n1<|z▸ma)]
  exact g3) nc hl td (g4.set n2 ht r)) g5 λb hb=>.inl hb
 rw[bD (show b≠a from λz=>hb<|z▸aC _ ma)];exact q
theorem InD.snoc{a:BF}:∀ {as:List BF}{dss:List (List D)},InD K F H as dss->H a=some (.lst [])->InD K F H (as++[a]) (dss++[[]])
 |[],[],_,e=>⟨⟨[],e,.nil⟩,trivial⟩
 |[],_::_,h,_=>h.elim
 |_::_,[],h,_=>h.elim
 |_::_,_::_,h,e=>⟨h.1,InD.snoc h.2 e⟩
theorem StF.newG{a:BF}{o:BI}(S:StF K H₀ F H σ sd)(hs:sd[i]? =some (odG P w K l ks ls dss))(fa:F a=none)(ha:H a=some (.lst []))(na:a∉bV sd)(nc:∀v,o.data≠ .cell v)(td:TDo P w F l o (ks.zip (ls.map V.ref)++[(k,.ref a)])):
  StF K H₀ F (upd H l<|exO l o) σ (sd.set i (odG P w K l (ks++[k]) (ls++[a])<|dss++[[]])):=by
 obtain⟨g1,g2,⟨o',g3,nc',hl,_⟩,g4,g5⟩:=gM S hs;obtain⟨n1,n2⟩:=bA.mp g5;have ml:∀b∈l::ls,b∈bV sd:=λb hb=>cW.mpr ⟨_,aN hs,hb⟩
 have al:a≠l:=λz=>na<|z▸ml l aE
 have als:a∉ls:=λz=>na (ml a<|aC _ z)
 have sp:∀b,b∈l::(ls++[a])->b∈l::ls\/b=a:=λb hb=>by
  rcases aR.mp hb with h|h
  ·exact .inl<|h▸aE
  ·rcases aK.mp h with h|h
   ·exact .inl<|aC _ h
   ·exact .inr<|aD.mp h
 refine S.reX (z':=odG P w K l (ks++[k]) (ls++[a])<|dss++[[]]) hs g1 (λb ob hb q=> ?_) (kZ S.smp l) (sW (λb hb=> ?_) bM nc (by rw[aM,aM,hl];rfl) ?_ ?_) ?_ λb hb=> ?_
 ·rw[bD (show b≠l from λz=>hb<|z▸aE)];exact q
 ·rcases sp b hb with h|rfl
  ·exact g2 b h
  ·exact fa
 ·rw[aU,aV,dJ,qS<|by rw[aB];exact hl];exact td
 ·refine InD.snoc (g4.mono2 (Same.refl _) λb hb ob q=> ?_) ?_
  ·rw[bD (show b≠l from λz=>n1<|z▸hb)];exact q
  ·rw[bD al];exact ha
 ·show(l::(ls++[a])).Nodup;refine bA.mpr ⟨λh=> ?_,aY.mpr ⟨n2,by simp,λb hb c hc e=>als<|aD.mp hc▸e▸hb⟩⟩
  rcases aK.mp h with h|h
  ·exact n1 h
  ·exact al (aD.mp h).symm
 ·rcases sp b hb with h|rfl
  ·exact .inl h
  ·exact .inr na
theorem aCq(i:Nat){x:Str}{p p2:Pos}(hN:X.N.Nodup)(hi:X.N[i]? =some x)(hx:Loc X.env.scope x)(hE:∀l,E.nx (sd.set i<|odG X.prog X.w X.K l [] [] []))(hs:AV (.Dict [] [] p2) (some<|.Name x p) pos.line X.env=pure false:=by rfl)
  (hf:X.fn x=true\/X.env.scope.names.lookup x=some .local:=by first|exact .inl rfl|exact .inr rfl|assumption):PSd1 X sd (.Assign [.Name x p] (.Dict [] [] p2) pos) E:=.mk λσ F H S=>
 (mK hN hi hx zK hs hf).to λq hq hm=>by
  have fp:F q=none:=S.sub.free hq
  have no:q∉bV sd:=λhl=>by obtain⟨_,ob,h,_⟩:=S.slots.owns hl;rw[hq] at h;cases h
  have S1:StF X.K X.B₀ F (upd H q<|exO q aDw) σ sd:=by
   refine⟨S.base,λb u e=> ?_,kZ S.smp q,S.slots.mono (Same.refl _) λl hl=> ?_,S.nd⟩
   ·rw[bD<|bX e fp];exact S.sub _ _ e
   ·obtain⟨n,ys,y,_⟩:=S.slots.owns hl;have hne:l≠q:=bX y hq;exact⟨n,λys e=>by rw[bD hne];exact e⟩
  refine⟨_,F,S1.setT i (sW (P:=X.prog) (w:=X.w) (K:=X.K) (ks:=[]) (ls:=[]) (dss:=[]) (λa ha=>by rw[aD.mp ha];exact fp) bM (λv z=>by cases z) rfl ⟨bJ _,hm,[],.nil, #[],0,⟨rfl,rfl,rfl⟩,rfl,rfl,cH⟩ trivial) (by simp) λa ha=> ?_,Same.refl _,hE q⟩;rw[aD.mp ha];exact no
theorem aCE(i:Nat){x:Str}{p ap1 cp1 p5 ap cp:Pos}(hu:X.A.units+1<AQ)(hs:sd[i]? =some (odG X.prog X.w X.K l ks ls dss))(hx:PE X (.Name x p) (iX i))(hb:PEd X sd b (.val (.tup<|k.map kD)))(h:∀z,PEd X (sd.set i z) e<|.val d)(hl:dss.length<=10000)(hl2:∀ds∈dss,ds.length<=10000)
  (hE1:∀n ds,ks[n]? =some k->dss[n]? =some ds->E.nx (sd.set i<|odG X.prog X.w X.K l ks ls (dss.set n<|ds++[d])))
  (hE2:k∉ks->∀a,E.nx<|sd.set i (odG X.prog X.w X.K l (ks++[k]) (ls++[a])<|dss++[[d]]))
  (hm:PE X (.Call (.Attribute (.Call (.Attribute (.Name x p) "setdefault" ap1) [b, .List [] p5] [] cp1) "append" ap) [e] [] cp)
   (tBM X.K "list" nD (λσ H Q=>iX i σ H λx H1=>(∃l ob,x=.ref l/\H1 l=some (exO l ob)/\ob.ExactDict)/\(kH (wE X b) (kH (wE X (.List [] p5)) sT)) σ H1 λxs H2=>rSD X x xs H2 Q) (kH (wE X e) sT)):=by exact aAT iN kP kQ qI (aIw iM gG rW aLo (pv _) (dE fG (dE fG pa_nil))) (dE fG pa_nil))
  (hsw:AV (.Call (.Attribute (.Call (.Attribute (.Name x p) "setdefault" ap1) [b, .List [] p5] [] cp1) "append" ap) [e] [] cp) none pos.line X.env=pure false:=by rfl):
  PSd1 X sd (.Expr (.Call (.Attribute (.Call (.Attribute (.Name x p) "setdefault" ap1) [b, .List [] p5] [] cp1) "append" ap) [e] [] cp) pos) E:=.mk λσ F H S=>
 (nG hm hsw).to (by
  obtain⟨h1,h2,⟨o,h3,nc,hk,td⟩,h4,h5⟩:=gM S hs;have il:i<sd.length:=(aF.mp hs).1
  have fin:∀ (F2 H2:Hp) (ks2:List (List Key)) (ls2:List BF) (dss2:List (List D)) (n:Nat) (ad:BF) (ds:List D),StF X.K X.B₀ F2 H2 σ (sd.set i<|odG X.prog X.w X.K l ks2 ls2 dss2)->Same F F2->ls2[n]? =some ad->dss2[n]? =some ds->ds.length<=10000->E.nx (sd.set i<|odG X.prog X.w X.K l ks2 ls2 (dss2.set n<|ds++[d]))->
    tyV X.K "list" (.ref ad) H2/\(kH (wE X e) sT) σ H2 λxs H3=>nD (.ref ad) xs H3 λ_ H4=>(lft X F E).nx σ H4:=λF2 H2 ks2 ls2 dss2 n ad ds S2 s2 hn hd hdl hE=>by
   have hs2:(sd.set i<|odG X.prog X.w X.K l ks2 ls2 dss2)[i]? =some (odG X.prog X.w X.K l ks2 ls2 dss2):=fH il;obtain⟨g1,g2,_,g4,g5⟩:=gM S2 hs2;obtain⟨ds',xs,e1,e2,e3⟩:=g4.get hn;refine⟨.inl ⟨rfl,xs,.of e2⟩,(h _ σ F2 H2 S2).imp λv H3 ⟨F3,S3,s3,q3⟩=> ?_⟩;obtain⟨f1,f2,_,f4,f5⟩:=gM S3 hs2;obtain⟨ds3,xs3,u1,u2,u3⟩:=f4.get hn;rw[hd] at u1;cases u1;have W:=S3.wrG (es:=ds++[d]) (ys:=xs3++[v]) hs2 hn (u3.app<|.one q3);rw[gS] at W;exact⟨ad,xs3,v,rfl,rfl,u2,by rw[u3.len] ;exact eV hdl,_,F3,W,s2.trans s3,hE⟩
  refine⟨.ref l,h1,⟨l,o,rfl,h3,td.2.2.choose_spec.2.choose_spec.choose_spec.1⟩,(hb σ F H S).imp λv1 H1 ⟨F1,S1,s1,q1⟩=>((mQ (ds:=[]) aW (bJ _):PEd X sd (.List [] p5) (.own [])) σ F1 H1 S1).imp λv2 H2 ⟨F2,S2,s2,q2⟩=> ?_⟩;obtain⟨g1,g2,⟨o2,g3,nc2,hk2,td2⟩,g4,g5⟩:=gM S2 hs;simp only[ResOk,Rep] at q1;obtain⟨ad,ys,rfl,ha,rl⟩:=q1;rw[mS rl] at ha;obtain⟨a,xs,rfl,fa,ha2,rl2,na⟩:=q2;have xn:xs=[]:=cD (by rw[rl2.len];rfl);subst xn;have zl:(ks.zip<|ls.map V.ref).length=dss.length:=by rw[iP,aB,<-hk2,mW,hk2,g4.len]
  refine⟨F2,l,ad,k,.ref a,o2,ks.zip<|ls.map V.ref,rfl,rfl,S2.sub,g3,s2 _ _ ha,hu,td2,by rw[zl];have:=eV hl;omega,λz hz=> ?_,λhz o' nc' td'=> ?_⟩
  ·obtain⟨n,e1,e2⟩:=vF hz;rw[bB] at e2;obtain⟨an,e3,rfl⟩:=eD.mp e2;obtain⟨ds,xs,d1,d2,d3⟩:=g4.get e3;have S2':StF X.K X.B₀ F2 H2 σ (sd.set i<|odG X.prog X.w X.K l ks ls dss):=by rw[vL hs];exact S2
   exact fin F2 H2 ks ls dss n an ds S2' (s1.trans s2) e3 d1 (hl2 ds<|aN d1)<|hE1 n ds e1 d1
  ·have S3:=S2.newG hs fa ha2 na nc' td';have hE:=hE2 (aBK (by rw[aB];exact hk2) hz) a;have en:(dss++[[]]).set dss.length ([]++[d])=dss++[[d]]:=by simp
   exact fin F2 _ (ks++[k]) (ls++[a]) (dss++[[]]) dss.length a [] S3 (s1.trans s2) (by rw[<-g4.len];simp) (by simp) (bJ _) (by rw[en];exact hE))
noncomputable def qM(p:Int×Int)(ws:List Int):Nat:=(rM (2^p.1.toNat) ws).toNat
theorem aBj{p:Int×Int}(hp:p∈cG){ws:List Int}(G:Fil p ws):rM (2^p.1.toNat) ws=(qM p ws:Int)/\qM p ws<(cX p).length/\(cX p).getD (qM p ws) []=ws:=by have h:=aFA<|aIu p hp;obtain⟨a,b,c⟩:=aJh h G.len G.wd;refine⟨by unfold qM;omega, ?_,c⟩;show _<(gJ _ _).length;rw[h.len];exact b
theorem aAW{p:Int×Int}(hp:p∈cG)(hi:i<(cX p).length):qM p ((cX p).getD i [])=i:=by
 have h:=aFA<|aIu p hp;have hi':i<2^(p.1.toNat*p.2.toNat):=by rw[<-h.len];exact hi
 have:=(h.at_ i hi').2.2.1;unfold qM;show(rM (2^p.1.toNat)<|(gJ (2^p.1.toNat) p.2.toNat).getD i []).toNat=i;rw[this];exact dM i
def aKW(A:BG)(s:BE)(x y:BD)(b:Bool):Prop:=∀ (prog:AF) (w:AM) (E:BD->BE->Prop) (Q:BD->BE->Prop),Q (.bool b) s->AK (AH prog w) A (richCompare .Lt x y) Q E s
inductive xH(A:BG)(s:BE)(fin:Bool):List (BD×BD)->Bool->Prop
 |nil:xH A s fin [] fin
 |eq {x y:BD}{r:List (BD×BD)}{b:Bool}:SeqAt.EqAt A.in1 s x y true->xH A s fin r b->xH A s fin ((x,y)::r) b
 |lt {x y:BD}{r:List (BD×BD)}{b:Bool}:SeqAt.EqAt A.in1 s x y false->aKW A.in1 s x y b->xH A s fin ((x,y)::r) b
section
open PySem.SeqAt
open PySem.AutoSeq1 (wpAny_loadPart')
open PySem.MeetsSeq PySem.MeetsSeq2 PySem.MeetsSeq3
theorem xF(l b:BF)(items items2:Array BD)(n n2:Nat)(dd dd2:Option BF)(sl sl2:Array (Option BD))(res:Bool):
  Meets (Builtin.«tuple.__lt__» ⟨[.ref l,.ref b],[]⟩)
   (fun A R s=>s.heap.get? l=some {cls:= .type "tuple",dict:=dd,data:= .seq items n,slots:=sl}∧s.heap.get? b=some {cls:= .type "tuple",dict:=dd2,data:= .seq items2 n2,slots:=sl2}∧
    xH A s (decide (items.size<items2.size)) (items.toList.zip items2.toList) res/\R (.ok (.ret (.bool res))) s):=
 .of_wp λprog w A R s h=>by
  obtain⟨hp,g,d,tk,os⟩:=s;obtain⟨hl,hb,hx,h⟩:=h;have f2:=AutoSeq1.sub_tuple_tuple
  wp_walk using wpAny_loadPart' hl,wpAny_loadPart' hb,BA _ (λrest b s'=>b.1=none/\s'=⟨hp,g,d,tk,os⟩/\xH A ⟨hp,g,d,tk,os⟩ (decide<|items.size<items2.size) rest res) _
  case turn=>
   rintro⟨y,x⟩ rest b s' ⟨hb',rfl,hv⟩;cases hv with
   |eq he hr=>
    refine AA<|he prog w _ _ ?_
    wp_walk
    exact⟨rfl,rfl,hr⟩
   |lt he hlt=>
    refine AA<|he prog w _ _ ?_;have hri:=hlt prog w
    wp_walk using hri
    exact⟨_,rfl,by simpa using h⟩
  case fin=>
   rintro⟨b1,b2⟩ s' ⟨hb',rfl,hv⟩;simp only at hb';subst hb';cases hv
   wp_walk
   exact⟨_,rfl,by simpa[Builtin.Tuple.tupleCompareSizes] using h⟩
  case h=>exact⟨rfl,rfl,hx⟩
theorem aAE{A:BG}{s:BE}{l b:BF}{items items2:Array BD}{res:Bool}(hl:IsTup s.heap l items)(hb:IsTup s.heap b items2)(hx:xH A s (decide<|items.size<items2.size) (items.toList.zip items2.toList) res)
  (hu:A.units<AQ):aKW A s (.ref l) (.ref b) res:=λprog w E Q h=>by
 obtain⟨⟨cls,dd,data,sl⟩,ho,hc,n,hd⟩:=id hl;obtain⟨⟨cls2,dd2,data2,sl2⟩,ho2,hc2,n2,hd2⟩:=id hb;simp only at hc hd hc2 hd2;subst hc hd hc2 hd2
 exact richCompare_meets_room (op:= .Lt) ⟨_,ho,rfl⟩ ⟨_,ho2,rfl⟩ PySem.F.slot_tuple_lt PySem.F.entry_tuple_lt (PySem.F.args_tuple_lt_2 _ _) (xF l b items items2 n n2 dd dd2 sl sl2 res)
  ⟨ho,ho2,hx,show Value.bool res≠Value.notImplemented/\Q (.bool res) s from⟨(λx=>nomatch x),h⟩⟩ hu
end
mutual
noncomputable def dlt:D->D->Bool
 |.int a,.int b=>decide<|a<b
 |.tup a,.tup b=>nR a b
 |_,_=>false
noncomputable def nR:List D->List D->Bool
 |[],[]=>false
 |[],_::_=>true
 |_::_,[]=>false
 |d::ds,e::es=>if deq d e=true then nR ds es else dlt d e
end
mutual
noncomputable def pX:D->D->Bool
 |.int _,.int _=>true
 |.tup a,.tup b=>vC a b
 |_,_=>false
noncomputable def vC:List D->List D->Bool
 |[],_=>true
 |_::_,[]=>true
 |d::ds,e::es=>pX d e&&vC ds es
end
mutual
theorem aEY(hok:HOk P w H s.heap):∀ (d:D) {d2:D}{v1 v2:V}{u1 u2:BD}{A:BG},pX d d2=true->pl d=true->pl d2=true->Rep K H d v1->Rep K H d2 v2->RelV v1 u1->RelV v2 u2->A.units+dep d<AQ->aKW A s u1 u2 (dlt d d2)
 |.int a,d2,v1,v2,u1,u2,A,c,p1,p2,r1,r2,ru1,ru2,hu=>by
  cases d2 with
  |int b=>simp only[Rep] at r1 r2;subst r1 r2;obtain⟨t,rfl⟩:=ru1;obtain⟨t2,rfl⟩:=ru2;simp only[dlt];exact λprog w E Q h=>(PyProof.Rows.lt_int h:AK (AH prog w) A (Ad .Lt (.int a t)<|.int b t2) Q E s)
  |_=>simp[pX] at c
 |.tup ds,d2,v1,v2,u1,u2,A,c,p1,p2,r1,r2,ru1,ru2,hu=>by
  cases d2 with
  |tup es=>
   obtain⟨a,xs,its,rfl,rfl,rl,rv,ht⟩:=iH hok r1 ru1;obtain⟨b,ys,jts,rfl,rfl,rl2,rv2,ht2⟩:=iH hok r2 ru2;simp only[dlt];have l1:its.length=ds.length:=by rw[<-rv.length,rl.len]
   have l2:jts.length=es.length:=by rw[<-rv2.length,rl2.len]
   simp only[pl] at p1 p2;simp only[dep] at hu;simp only[pX] at c;refine aAE ht ht2 ?_ (by omega);exact aBl hok ds c p1 p2 rl rl2 rv rv2 (by omega) (by simp[l1,l2])
  |_=>simp[pX] at c
 |.non,d2,_,_,_,_,_,c,_,_,_,_,_,_,_=>by cases d2<;>simp[pX] at c
 |.bl _,d2,_,_,_,_,_,c,_,_,_,_,_,_,_=>by cases d2<;>simp[pX] at c
 |.str _,d2,_,_,_,_,_,c,_,_,_,_,_,_,_=>by cases d2<;>simp[pX] at c
 |.lst _,d2,_,_,_,_,_,c,_,_,_,_,_,_,_=>by cases d2<;>simp[pX] at c
 |.dic,d2,_,_,_,_,_,c,_,_,_,_,_,_,_=>by cases d2<;>simp[pX] at c
 |.dki _ _,d2,_,_,_,_,_,c,_,_,_,_,_,_,_=>by cases d2<;>simp[pX] at c
 |.any _,d2,_,_,_,_,_,c,_,_,_,_,_,_,_=>by cases d2<;>simp[pX] at c
 |.scr _,d2,_,_,_,_,_,c,_,_,_,_,_,_,_=>by cases d2<;>simp[pX] at c
theorem aBl(hok:HOk P w H s.heap):∀ (ds:List D) {es:List D}{xs ys:List V}{its jts:List BD}{A:BG}{fin:Bool},vC ds es=true->plL ds=true->plL es=true->RepL K H ds xs->RepL K H es ys->Vals xs its->Vals ys jts->A.units+1+iY ds<AQ->fin=decide (ds.length<es.length)->xH A s fin (its.zip jts) (nR ds es)
 |[],es,xs,ys,its,jts,A,fin,c,p1,p2,r1,r2,v1,v2,hu,hf=>by
  simp only[RepL] at r1;subst r1;cases v1;subst hf;rw[List.zip_nil_left];cases es with
  |nil=>exact .nil
  |cons e es=>
   have:nR [] (e::es)=decide (([]:List D).length<(e::es).length):=by simp[nR]
   rw[this];exact .nil
 |d::ds,[],xs,ys,its,jts,A,fin,c,p1,p2,r1,r2,v1,v2,hu,hf=>by
  simp only[RepL] at r2;subst r2;cases v2;subst hf;rw[List.zip_nil_right];have:nR (d::ds) []=decide ((d::ds).length<([]:List D).length):=by simp[nR]
  rw[this];exact .nil
 |d::ds,e::es,xs,ys,its,jts,A,fin,c,p1,p2,r1,r2,v1,v2,hu,hf=>by
  obtain⟨x,xs,rfl,a1,r1⟩:=r1.uncons;obtain⟨y,ys,rfl,a2,r2⟩:=r2.uncons;simp only[plL,bG] at p1 p2;simp only[vC,bG] at c;simp only[iY] at hu;cases v1 with
  |cons q1 v1=>
   cases v2 with
   |cons q2 v2=>
    rw[dA];have he:=xA (A:=A.in1) hok d p1.1 p2.1 a1 a2 q1 q2 (by show A.units+1+dep d<AQ;omega);simp only[nR]
    by_cases z:deq d e=true
    ·rw[if_pos z];rw[z] at he;exact .eq he (aBl hok ds c.2 p1.2 p2.2 r1 r2 v1 v2 (by omega)<|by rw[hf];simp)
    ·rw[if_neg z];rw[aFR.mpr z] at he;exact .lt he (aEY (A:=A.in1) hok d c.1 p1.1 p2.1 a1 a2 q1 q2<|by show A.units+1+dep d<AQ;omega)
end
section
variable {prog:AF}{w:AM}{A:BG}{E:BD->BE->Prop}{s:BE}
open HT
end
theorem aAj(a:List Nat):(cN a).length=a.length:=by unfold cN;rw[aB]
noncomputable def vV(h:BH)(a:BF):BH:=h.update a λo=>{o with data:=.freed}
noncomputable def mJ(h:BH)(S:List BF):BH:=S.foldl vV h
theorem aAb(h:BH){a b:BF}(ne:b≠a):(vV h a).get? b=h.get? b:=cB _ _<|Ne.symm ne
theorem aAo(h:BH)(a:BF):(vV h a).get? a=none:=by
 cases h;simp only[vV,Heap.update,Heap.get?,aAP,if_true]
 split
 ·rfl
 ·rename_i hx;generalize hq:Option.map _ _=q at hx ⊢;cases q with
  |none=>rfl
  |some o=>obtain⟨o',h1,h2⟩:=eD.mp hq;exact(hx _ _ _<|by rw[<-h2]).elim
theorem jZ:∀ {S:List BF}{h:BH}{a:BF},a∉S->(mJ h S).get? a=h.get? a
 |[],_,_,_=>rfl
 |b::S,h,a,hn=>by show(mJ (vV h b) S).get? a=_;rw[jZ λz=>hn<|aC _ z,aAb h (λz:a=b=>hn<|z▸aE)]
theorem jC:∀ {S:List BF}{h:BH}{a:BF},a∈S->(mJ h S).get? a=none
 |b::S,h,a,hm=>by
  show(mJ (vV h b) S).get? a=none
  by_cases hs:a∈S
  ·exact jC hs
  ·have e:a=b:=(aR.mp hm).resolve_right hs;subst e;rw[jZ hs,aAo]
theorem pO{S:List BF}{h:BH}{a:BF}{o:BI}(q:(mJ h S).get? a=some o):a∉S/\h.get? a=some o:=by
 have hn:a∉S:=λz=>by rw[jC z] at q;cases q
 exact⟨hn,by rw[jZ hn] at q;exact q⟩
theorem mZ{h base base':BH}:∀ {l:List Env},h.FunFrames base l->(∀b∈l.filterMap (·.frame),base'.get? b=none)->h.FunFrames base' l
 |[],_,_=>trivial
 |env::rest,hl,hb=>by
  obtain⟨hk,⟨L,o,hf,hn,ho,hd⟩,hr⟩:=hl;have e:(env::rest).filterMap (·.frame)=L::rest.filterMap (·.frame):=by rw[fD,hf]
  rw[e] at hb;exact⟨hk,⟨L,o,hf,hb L aE,ho,hd⟩,mZ hr λb hm=>hb b<|aC _ hm⟩
theorem tP{h:BH}{a:BF}{o:HO}(x:ObjOk P w H h a o):∃ob,h.get? a=some ob:=by
 cases o with
 |lst xs=>obtain⟨_,_,_,_,e⟩:=x;exact⟨_,e⟩
 |tup xs=>obtain⟨_,_,_,ob,e,_⟩:=x;exact⟨_,e⟩
 |dK kvs=>obtain⟨_,_,_,_,o,_,_,e,_⟩:=x;exact⟨_,e⟩
 |dT kvs=>obtain⟨_,_,_,_,o,_,_,e,_⟩:=x;exact⟨_,e⟩
 |set S n=>obtain⟨o,_,_,_,e,_⟩:=x;exact⟨_,e⟩
 |ins C dx fs=>obtain⟨_,_,_,e,_⟩:=x;exact⟨_,e⟩
 |own y=>obtain⟨_,e⟩:=x;exact⟨_,e⟩
 |xd fs=>obtain⟨_,⟨_,_,_,e,_⟩,_⟩:=x;exact⟨_,e⟩
 |rng lo hi=>obtain⟨_,_,_,e⟩:=x;exact⟨_,e⟩
 |frz ob u=>obtain⟨e,_⟩:=x;exact⟨_,e⟩
 |tbl ps=>exact⟨_,(show h.get? a=some _ from x)⟩
 |met f y=>exact⟨_,(show h.get? a=some _ from x)⟩
 |ext φ=>obtain⟨_,⟨_,e⟩,_⟩:=x;exact⟨_,e⟩
structure Exc(h0 h:BH)(H:Hp)(a T:BF)(cls:BD):Prop where
 free:H a=none
 new:h0.get? a=none
 freeT:H T=none
 newT:h0.get? T=none
 obj:∃oe vs oT ts a0,h.get? a=some oe/\(oe.cls=cls/\vs[0]? =some a0)/\oe.data=.fields vs/\vs[1]? =some (.ref T)/\T≠a/\h.get? T=some oT/\oT.data=.fields ts/\ts[3]? =some .none
noncomputable def CX1(P:AF)(w:AM)(cls:BD):CXT:=λouter H s E e s'=>∃a T H',e=.ref a/\s'.os=s.os/\AllBare s'.gens/\Un (frs outer) [] H H' s.heap s'.heap/\HOk P w H' s'.heap/\Exc s.heap s'.heap H' a T cls/\E (.ref a) (some a) H'
variable {pins:List (BF×BI)}{h':BH}{a T:BF}{cls a0:BD}{S:List BF}{E:XK}
theorem aBD(I:Inv X pins σ H s)(hex:X.ex=[])(hst:X.stack=X.env::X.outer/\X.env.frame=some X.env.locals)(hS:∀b∈S,H b=none/\X.s₀.heap.get? b=none)(ha:a∈S)(L:Heap.LeftW (mJ s.heap<|frs X.stack++S) X.stack a cls a0 s.heap h')(hE:E (.ref a) (some a) H):
  CX1 X.prog X.w cls X.outer X.H₀ X.s₀ E (.ref a) {s with heap:=h'}:=by
 obtain⟨k1,k2,⟨oe,vs,T,oT,ts,he,hc,hd,h1,hnT,hTe,hT,hdT,h3⟩,k4⟩:=L
 have fr:frs X.stack=X.env.locals::frs X.outer:=by unfold frs;rw[hst.1,fD,hst.2]
 have out:∀b o,X.s₀.heap.get? b=some o->b∉frs X.outer->b∉frs X.stack++S:=λb o q hb hm=>by
  rcases aK.mp hm with hm|hm
  ·rw[fr] at hm
   rcases aR.mp hm with e|hm
   ·have:=I.ok.above;have lt:=aP q;rw[e] at lt;exact absurd lt<|mV.mpr this
   ·exact hb hm
  ·rw[(hS b hm).2] at q;cases q
 have stay:∀b o,b∉frs X.stack++S->s.heap.get? b=some o->h'.get? b=some o:=λb o hb q=>k1 b o (by rw[jZ hb];exact q)
 have nex:∀b,b∉X.ex:=λb hb=>by rw[hex] at hb;cases hb
 have slot:∀b o,X.s₀.heap.get? b=some o->X.H₀ b=none->b∈frs X.outer->∃sl,h'.get? b=some {o with slots:=sl}:=λb o q n hb=>by obtain⟨sl,q1⟩:=I.base.slot b o q n hb<|nex b;obtain⟨_,o',q2,nf⟩:=I.ok.funs.mem hb;rw[q] at q2;cases q2;obtain⟨sl2,q3⟩:=k4 b _ q1 nf;exact⟨sl2,q3⟩
 have tr:∀b u,H b=some u->b∉frs X.stack++S:=λb u e hm=>by
  rcases aK.mp hm with hm|hm
  ·rw[I.env0.frf b hm] at e;cases e
  ·rw[(hS b hm).1] at e;cases e
 have Tn:s.heap.get? T=none\/T∈S:=by
  by_cases hm:T∈frs X.stack++S
  ·rcases aK.mp hm with hm|hm
   ·obtain⟨_,o,q,nf⟩:=k2.mem hm;rw[hT] at q;cases q;exact(nf ts hdT).elim
   ·exact .inr hm
  ·rw[jZ hm] at hnT;exact .inl hnT
 refine⟨a,T,H,rfl,I.os,I.bare,⟨λb o q n hb _=>stay b o (out b o q hb) (I.base.keep b o q n hb<|nex b),λb o q n hb _=>slot b o q n hb,λb o q n _=>I.base.free b o q n<|nex b,λb o q _=> ?_,I.base.tups,I.base.frzs,I.base.tbls⟩,λb u e=> ?_,⟨(hS a ha).1,(hS a ha).2, ?_, ?_,oe,vs,oT,ts,a0,he,hc,hd,h1,hTe,hT,hdT,h3⟩,hE⟩
 ·by_cases hb:b∈frs X.outer
  ·obtain⟨sl,q2⟩:=slot b o q (I.ok.frf b hb) hb;exact⟨_,q2⟩
  ·obtain⟨o1,q1⟩:=I.base.there b o q<|nex b;exact⟨o1,stay b o1 (out b o q hb) q1⟩
 ·refine(I.hok b u e).stay (λc v hc q=>stay c v ?_ q) (λ_ q=>q) λ_ _ q=>q
  rcases hc with z|z
  ·rw[z];exact tr b u e
  ·exact tr c _ z
 ·rcases Tn with q|q
  ·cases g:H T with
   |none=>rfl
   |some u=>obtain⟨ob,q2⟩:=tP<|I.hok T u g;rw[q] at q2;cases q2
  ·exact(hS T q).1
 ·rcases Tn with q|q
  ·cases g:X.s₀.heap.get? T with
   |none=>rfl
   |some o=>obtain⟨o1,q1⟩:=I.base.there T o g<|nex T;rw[q] at q1;cases q1
  ·exact(hS T q).2
theorem aCt{args:List BD}{Ex:BD->BE->Prop}(I:Inv X pins σ H s)(hex:X.ex=[])(hst:X.stack=X.env::X.outer/\X.env.frame=some X.env.locals)(m:Heap.MadeExcOf s.heap h' a cls args)(hE:E (.ref a) (some a) H):
  AK (AH X.prog X.w) X.A (leaving X.env<|.ref a) (λ_ s''=>CX1 X.prog X.w cls X.outer X.H₀ X.s₀ E (.ref a) s'') Ex {s with heap:=h'}:=by
 obtain⟨t,he,ht,_⟩:=m.there;have I':Inv X pins σ H {s with heap:=h'}:=I.kept (t':=s.toks) m.keeps
 have Ha:H a=none:=by
  cases g:H a with
  |none=>rfl
  |some u=>obtain⟨ob,q⟩:=tP<|I.hok a u g;rw[m.new] at q;cases q
 have sa:X.s₀.heap.get? a=none:=by
  cases g:X.s₀.heap.get? a with
  |none=>rfl
  |some o=>obtain⟨o1,q1⟩:=I.base.there a o g (λhb=>by rw[hex] at hb;cases hb);rw[m.new] at q1;cases q1
 have hS:∀b∈[a],H b=none/\X.s₀.heap.get? b=none:=λb hb=>by rw[aD.mp hb];exact⟨Ha,sa⟩
 have fu:Heap.FunFrames h' (mJ h'<|frs X.stack++[a]) X.stack:=mZ I'.env0.funs λb hb=>jC<|aS _ hb
 have fm:=I'.ok.frames;rw[hst.1] at fm;have fu2:=fu;rw[hst.1] at fu2;refine wpAny_leaving_firstW (base:=mJ h'<|frs X.stack++[a]) fm (by rw[hst.1];exact fu2) hst.2 he (λb o q=>(pO q).2) (jC (aH _<|bI a)) rfl rfl rfl λh'' L=> ?_
 rw[<-hst.1] at L;exact aBD I' hex hst hS (bI a) L hE
theorem aAn{Ex:BD->BE->Prop}(I:Inv X pins σ H s)(hex:X.ex=[])(hst:X.stack=X.env::X.outer/\X.env.frame=some X.env.locals)(x:Exc X.s₀.heap s.heap H a T cls)(hE:E (.ref a) (some a) H):
  AK (AH X.prog X.w) X.A (leaving X.env<|.ref a) (λ_ s''=>CX1 X.prog X.w cls X.outer X.H₀ X.s₀ E (.ref a) s'') Ex s:=by
 obtain⟨f1,n1,HT,nT,oe,vs,oT,ts,a0,he,hc,hd,h1,hTe,hT,hdT,h3⟩:=x
 have hS:∀b∈[a,T],H b=none/\X.s₀.heap.get? b=none:=λb hb=>by
  simp only[aR,eJ,or_false] at hb
  rcases hb with rfl|rfl
  ·exact⟨f1,n1⟩
  ·exact⟨HT,nT⟩
 have fu:Heap.FunFrames s.heap (mJ s.heap<|frs X.stack++[a,T]) X.stack:=mZ I.env0.funs λb hb=>jC<|aS _ hb
 have fm:=I.ok.frames;rw[hst.1] at fm;have fu2:=fu;rw[hst.1] at fu2;have ca:(mJ s.heap<|frs X.stack++[a,T]).get? a=none:=jC (aH _<|by simp);have cT:(mJ s.heap<|frs X.stack++[a,T]).get? T=none:=jC (aH _<|by simp);refine wpAny_leaving_nextW (base:=mJ s.heap<|frs X.stack++[a,T]) (cls:=cls) (a0:=a0) fm (by rw[hst.1];exact fu2) hst.2 ⟨oe,vs,T,oT,ts,he,hc,hd,h1,cT,hTe,hT,hdT,h3⟩ (λb o q=>(pO q).2) ca λh'' L=> ?_
 rw[<-hst.1] at L;exact aBD I hex hst hS (by simp) L hE
end DL
namespace DL
open PySem PySem.Spec PySem.Calls PySem.W PyProof.Rows Builtin Builtin.Getset_descriptor Builtin.ObjectAttr
variable {prog:AF}{w:AM}{A:BG}{E:BD->BE->Prop}{h:BH}{g:Array GenState}{d:Drawn}{t:Nat}{os:OsState}{a C:BF}{K:Frag}
def ExA(a C:BF)(h:BH):Prop:=∃o,h.get? a=some o/\o.cls=.ref C
theorem ExA.type{M:Model}(I:ExA a C h):Looks M h (typeOf<|.ref a) (.ref C):=by obtain⟨o,h1,h2⟩:=I;exact h2▸(Looks.ld h1).andThen .now
theorem aKl{tp:BD}{R:Result->BE->Prop}{s:BE}(X:K.In s.heap)(I:ExA a C s.heap)(hm:mroIn K C (.type "object")=some true)
  (h:R (.ok (.ret<|.ref C)) s):codeAny (AH prog w) A (.call (.builtin "getset_descriptor.__get__") ⟨[.builtin "object.__class__",.ref a,tp],[]⟩) R s:=by
 obtain⟨hh,g,dr,t,os⟩:=s;have L0:=I.type (M:=AH prog w);have L1:=looks_mroIn (M:=AH prog w) X hm;refine codeAny_call_builtin KF.slot_gs.plain KF.entry_gs<|KF.slot_gs.check _ _ _ _ _ _ _ _ KF.type_class (KF.args_gs _ _ _) ?_;unfold Builtin.«getset_descriptor.__get__» descrGet;rw[dga_obj];refine AA<|AB ?_;unfold descrGetter descrCheckInstance descrNameAndClass isInstance;simp only[KF.owner_class]
 repeat lk
 refine⟨Code.quiet_builtin _<|by decide+kernel,Aw KF.entry_class ?_⟩;unfold Builtin.«object.__class__» shownTypeOf
 repeat lk
 exact h
theorem aDK{tk:Tok}{Q:Fin->BE->Prop}(X:K.In h)(I:ExA a C h)(ha:findIn K (.ref C) "__class__"=some (some<|.builtin "object.__class__"))(hm:mroIn K C (.type "object")=some true)
  (hq:Q (.done (.ret<|.ref C)) ⟨h,g,d,t,os⟩):AK (AH prog w) A (Builtin.«object.__getattribute__» ⟨[.ref a,.str "__class__" tk],[]⟩) Q E ⟨h,g,d,t,os⟩:=by
 have hT5:(⟨h,g,d,t,os⟩:BE).TypeIs (.builtin "object.__class__") "getset_descriptor":=F.typeOf_object_class;have f5:=F.typeOf_object_class;have f6:=F.slot_gs_get.lookup;have f7:=F.slot_gs_set.lookup;have L1:=looks_findIn (M:=AH prog w) X ha;obtain⟨o,hx,hc⟩:=id I
 repeat (any_goals (first|assumption|(with_reducible refine wpAny_loadPart_at hx ?_;rw[hc])|with_reducible refine L1.at ?_|wp_step))
 refine aKl X I hm ?_
 repeat (any_goals (first|assumption|wp_step))
theorem aDN{M:Model}{nameV:BD}{Q:Unit->BE->Prop}(X:K.In h)(I:ExA a C h)(hs:subIn K (.ref C) (.type "BaseException")=some true)(hq:Q () ⟨h,g,d,t,os⟩):
  AK M A (checkBuiltinCall "BaseException.__getattribute__" ⟨[.ref a,nameV],[]⟩) Q E ⟨h,g,d,t,os⟩:=by
 have hk:builtinKind "BaseException.__getattribute__"=some .slot:=by decide+kernel
 have hsplit:splitId "BaseException.__getattribute__"=some ("BaseException","__getattribute__"):=by decide+kernel
 have L1:=looks_subIn (M:=M) X hs;obtain⟨o,hx,hc⟩:=id I;have ha:=F.args_bexc_ga (.ref a) nameV;simp only[checkBuiltinCall,hk,hsplit];refine AA ?_;unfold isInstance
 repeat (first|(with_reducible refine wpAny_loadPart_at hx ?_;rw[hc])|with_reducible refine L1.at ?_|wp_step)
 exact hq
theorem aGI{tk:Tok}{R:Result->BE->Prop}(X:K.In h)(I:ExA a C h)(ha:findIn K (.ref C) "__class__"=some (some<|.builtin "object.__class__"))(hm:mroIn K C (.type "object")=some true)(hs:subIn K (.ref C) (.type "BaseException")=some true)
  (hq:R (.ok (.ret<|.ref C)) ⟨h,g,d,t,os⟩):codeAny (AH prog w) A (.call (.builtin "BaseException.__getattribute__") ⟨[.ref a,.str "__class__" tk],[]⟩) R ⟨h,g,d,t,os⟩:=
 codeAny_call_builtin F.attr_ValueError.ga.plain F.entry_bexc_ga (aDN X I hs<|aDK X I ha hm hq)
theorem aLu{tk:Tok}{Q:BD->BE->Prop}(X:K.In h)(I:ExA a C h)(ha:findIn K (.ref C) "__class__"=some (some<|.builtin "object.__class__"))(hm:mroIn K C (.type "object")=some true)(hs:subIn K (.ref C) (.type "BaseException")=some true)
  (hg:findIn K (.ref C) "__getattribute__"=some (some<|.builtin "BaseException.__getattribute__")) (hn:findIn K (.ref C) "__getattr__"=some none)
  (hq:Q (.ref C) ⟨h,g,d,t,os⟩):AK (AH prog w) A (getAttrBy (.ref a) (.str "__class__" tk) false) Q E ⟨h,g,d,t,os⟩:=by
 have f3:=F.attr_ValueError.ga.bind<|.ref a;have hx2:(Value.builtin "BaseException.__getattribute__"==Value.builtin "object.__getattribute__")=false:=by decide+kernel
 have hx1:(onTheHeap (Value.ref C)&&Value.builtin "BaseException.__getattribute__"==Value.builtin "object.__getattribute__")=false:=by rw[hx2];rfl
 have L1:=looks_findIn (M:=AH prog w) X hg;have L2:=looks_findIn (M:=AH prog w) X hn;obtain⟨o,hx,hc⟩:=id I
 repeat (any_goals (first|assumption|(with_reducible refine wpAny_loadPart_at hx ?_;rw[hc])|with_reducible refine L1.at ?_|with_reducible refine L2.at ?_|wp_step))
 refine aGI X I ha hm hs ?_
 repeat (any_goals (first|assumption|wp_step))
theorem aGR{Q:Option BD->BE->Prop}(X:K.In h)(I:ExA a C h)(ha:findIn K (.ref C) "__class__"=some (some<|.builtin "object.__class__"))(hm:mroIn K C (.type "object")=some true)(hs:subIn K (.ref C) (.type "BaseException")=some true)
  (hg:findIn K (.ref C) "__getattribute__"=some (some<|.builtin "BaseException.__getattribute__")) (hn:findIn K (.ref C) "__getattr__"=some none)
  (hq:Q (some<|.ref C) ⟨h,g,d,t+1,os⟩):AK (AH prog w) A (getAttr? (.ref a) "__class__") Q E ⟨h,g,d,t,os⟩:=by
 unfold getAttr? getAttrBy?
 repeat (any_goals (first|assumption|with_reducible apply aLu X I ha hm hs hg hn|wp_step))
structure aFY(K:Frag)(C:BF):Prop where
 ha:findIn K (.ref C) "__class__"=some (some<|.builtin "object.__class__")
 hm:mroIn K C (.type "object")=some true
 hs:subIn K (.ref C) (.type "BaseException")=some true
 hg:findIn K (.ref C) "__getattribute__"=some (some<|.builtin "BaseException.__getattribute__")
 hn:findIn K (.ref C) "__getattr__"=some none
 hc:(clsIn K C).isSome=true
theorem zB(x:aFY K C):KitX K (.ref a) (.ref C) (ExA a C) where
 ty:=λ_ _ _ I=>I.type
 it:=λ_ _ X _=>by
  obtain⟨cdD,hcD⟩:=kS.mp x.hc;unfold clsIn at hcD
  split at hcD
  ·rename_i c' d' cd' sl' ho;intro A' Q' E' s' k q;unfold isType loadHead;exact AA (wpAny_loadPart (k _ _<|X _ _ ho)<|AB q)
  ·cases hcD
 ne:=λh tp dd its n sl X htp=>by
  obtain⟨cdD,hcD⟩:=kS.mp x.hc;refine aFR.mpr λq=> ?_
  have e:C=tp:=Value.ref.inj<|beq_iff_eq.mp q;subst e;unfold clsIn at hcD
  split at hcD
  ·rename_i c' d' cd' sl' ho;have z:=(X _ _ ho).symm.trans htp;cases z
  ·cases hcD
 ca:=λ{prog w A E Q s} X I k=>by obtain⟨h,g,d,t,os⟩:=s;exact aGR X I x.ha x.hm x.hs x.hg x.hn k
end DL
namespace DL
open PySem PySem.Spec PyProof.Rows L2
noncomputable def aKM:List BD:=[.type "ValueError",.type "Exception",.type "BaseException",.type "object"]
theorem aDe{K:aA}{h:BH}{C:BF}{bmB:List BD}{newId:String}(X:K.In h)(q:kN K C bmB newId=true):
  ∃bm N nm q bs hdct sn sub ab col dd k0 k1 k2 k3 k5 mN,h.get? C=some (excClassObj nm q C N bs bm hdct sn sub ab col dd k0 k1 k2 k3 k5 newId)/\h.Ns N mN/\mN "__init__"=none/\OwnTail h bmB bm:=by
 unfold kN at q
 split at q
 ·rename_i dd cd sl ho
  split at q
  ·rename_i C' bm k0 k1 k2 k3 n k5 hm hs;simp only[bG,beq_iff_eq,lD] at q;obtain⟨⟨⟨⟨⟨rfl,rfl⟩,hdel⟩,ht⟩,hok⟩,hni⟩:=q;obtain⟨nm,bs,mro,ns,qn,hd,sn,sub,ab,col,del⟩:=cd;dsimp only at hm hdel hok hni;subst hm hdel
   have hsl:sl= #[k0,k1,k2,k3,some<|.builtin n,k5]:=by obtain⟨l⟩:=sl;simp only at hs;rw[hs]
   subst hsl;exact⟨bm,ns,nm,qn,bs,hd,sn,sub,ab,col,dd,k0,k1,k2,k3,k5,_,X _ _ ho,.of_isNs<|PySem.W.isNs_of_in X hok,PySem.W.nsMap_none_of_in X hok hni,PySem.W.tail_of_in X ht⟩
  ·cases q
 ·cases q
def Takes(X:Cx)(cls:BD)(sd:List Slot):Prop:=∀ (pins:List (BF×BI)) (σ:St) (F H:Hp) (s:BE) (a T:BF),Inv X pins σ H s->StF X.K X.B₀ F H σ sd->Exc X.s₀.heap s.heap H a T cls->(∀p∈X.pn++pins,p.1≠a/\p.1≠T)->X.xe (.ref a) s
def tU(X:Cx)(cls:BD)(sd:List Slot):Prop:=∀ (pins:List (BF×BI)) (σ:St) (F H:Hp) (s:BE) (h':BH) (a:BF) (args:List BD),Inv X pins σ H s->StF X.K X.B₀ F H σ sd->Heap.MadeExcOf s.heap h' a cls args->X.xe (.ref a) {s with heap:=h'}
variable {P:AF}{w:AM}{K:aA}{mg:Str->Option BD}{base:BH}{N:List Str}{qual:Str}{scope:Scope}{f:BF}{cdv:BD}{A:BG}{outer:List Env}{s:BE}{H:Hp}{E:XK}{cls:BD}{sd:List Slot}
theorem aCB(hE:∀a H',Same H H'->Smp H'->E (.ref a) (some a) H'):Takes (jL (CX1 P w cls) P w K mg base N qual scope f cdv A outer s H E) cls sd:=λpins σ F H' s' a T I S x _=>aAn (X:=jL (CX1 P w cls) P w K mg base N qual scope f cdv A outer s H E) (E:=E) I rfl ⟨rfl,rfl⟩ x<|hE a H' (λb o e=>S.sub _ _<|S.base _ _ e) S.smp
theorem aAw(hE:∀a H',Same H H'->Smp H'->E (.ref a) (some a) H'):tU (jL (CX1 P w cls) P w K mg base N qual scope f cdv A outer s H E) cls sd:=λpins σ F H' s' h' a args I S m=>aCt (X:=jL (CX1 P w cls) P w K mg base N qual scope f cdv A outer s H E) (E:=E) I rfl ⟨rfl,rfl⟩ m<|hE a H' (λb o e=>S.sub _ _<|S.base _ _ e) S.smp
variable {X:Cx}{e a b c:Expr}{es:List Expr}{pos:Pos}{d:D}{ds:List D}{E:gY}
theorem aCG{x:Str}{np cpos:Pos}{C:BF}(hg:Gl X x)(hm:X.mg x=some (.ref C))(hx:kN X.K C aKM "ValueError.__new__"=true)(ht:tU X (.ref C) sd)(he:PAd X sd (e::es) (ds.map R.val))(hl:ds.length<=10000)
  (hc:X.calm=true:=by rfl) (hdb:(x==("__debug__":Str))=false:=by decide) (hst:AC (e::es) X.env=(false,eval e X.env)::AC es X.env:=by rfl) (hpl:(Ae cpos<|AC es X.env).any (·.1)=false:=by rfl):
  PSd1 X sd (.Raise (some<|.Call (.Name x np) (e::es) [] cpos) none pos) E:=.mk λσ F H S pins s I=>by
 obtain⟨bm,Nn,nm,q,bs,hdct,sn,sub,ab,col,dd,k0,k1,k2,k3,k5,mN,hC,hN,hni,T⟩:=aDe (h:=X.base) I.ok.mod.kin hx
 refine wpAny_Raise_call_subT (C:=C) (nm:=nm) (q:=q) (N:=Nn) (bs:=bs) (bm:=bm) (hdct:=hdct) (sn:=sn) (sub:=sub) (ab:=ab) (col:=col) (dd:=dd) (k0:=k0) (k1:=k1) (k2:=k2) (k3:=k3) (k5:=k5) (bmB:=aKM)
  uT (mN:=mN) (T.hasType uT.hasBase) (I.ok.hd hc) (by rw[hst];show(false||(Ae cpos<|AC es X.env).any (·.1))=false;rw[hpl];rfl) hni (oP I hg hm ⟨rfl, ?_⟩ hdb)
 have hA:=he σ F H S cpos pins s I;rw[hst] at hA ⊢;refine Calls.evalArgs_plain<|AW hA (λus s2 ⟨vs,H2,I2,r2,F2,S2,s2',q2⟩=> ?_) λ_ _ y=>y
 have lv:us.length<=AL:=by rw[<-r2.length,q2.vals.len];exact dC<|eV hl
 exact⟨rfl,lv,I2.bk _ _ hC,hN.keeps I2.bk,T.keeps I2.bk,λh' e m=>ht pins σ F2 H2 s2 h' e us I2 S2 m⟩
structure PEx(X:Cx)(sd:List Slot)(e:Expr):Prop where
 run:∀ (σ:St) (F H:Hp),StF X.K X.B₀ F H σ sd->wE X e σ H (λ_ _=>False)
theorem aCk(h:PEx X sd e)(hs:AV e none pos.line X.env=pure false:=by rfl):PSd1 X sd (.Expr e pos) E:=.mk λσ F H S=>(nG fG hs).to<|(h.run σ F H S).imp λ_ _ z=>z.elim
theorem aEL(i:Nat){x:Str}{p:Pos}(hN:X.N.Nodup)(hi:X.N[i]? =some x)(hx:Loc X.env.scope x)(h:PEx X sd e)(hs:AV e (some<|.Name x p) pos.line X.env=pure false:=by rfl)
  (hf:X.fn x=true\/X.env.scope.names.lookup x=some .local:=by first|exact .inl rfl|exact .inr rfl|assumption):PSd1 X sd (.Assign [.Name x p] e pos) E:=.mk λσ F H S=>
 (mK hN hi hx fG hs hf).to ((h.run σ F H S).imp λ_ _ z=>z.elim)
noncomputable def spX(K:aA)(n:Nat)(C:List D->Prop):Sp:=λvs H _ E=>vs.length=n/\Smp H/\∃ds,RepL K H ds vs/\C ds/\∀a H',Same H H'->Smp H'->E (.ref a) (some a) H'
structure jS(P:AF)(w:AM)(K:aA)(mg:Str->Option BD)(base:BH)(x:Str)(k n:Nat)(C:List D->Prop)(cls:BD)(dvs:List V)(dws:List BD):Prop where
 ex:∃ (f:BF) (fd:AX) (ps:List Str),mg x=some (.ref f)/\eO K (.ref f)=true/\Binds K fd ps dws/\Vals dvs dws/\FnOk P w K mg base (CX1 P w cls) k f fd ps (spX K n C)
theorem aBI{CX:CXT}{k:Nat}{fd:AX}{ps:List Str}{sp:Sp}{dvs:List V}{dws:List BD}{Ex:XK}{pins:List (BF×BI)}{σ:St}{Q:VK}{us:List BD}{vs:List V}(F:FnOk X.prog X.w X.K X.mg X.base CX k f fd ps sp)(hr:Room k X.A)(hb:Binds X.K fd ps dws)(hd:Vals dvs dws)
  (I:Inv X pins σ H s) (r:Vals vs us) (h:sp (vs++dvs) H Q Ex) (hx:∀e s',CX X.stack H s Ex e s'->X.xe e s'):AK (AH X.prog X.w) X.A (call (.ref f) us) (EP X pins σ Q) X.xe s:=by
 have r2:Vals (vs++dvs) (us++dws):=r.append hd;have hl:(us++dws).length=ps.length:=by rw[<-r2.length];exact F.len _ _ _ _ h
 refine wpAny_call<|Az (F.run X.A X.stack s H ⟨us,[]⟩ (us++dws) (vs++dvs) Q Ex hr I.env0 (hb s us I.kIn hl) r2 h) λr s' hq=> ?_;cases r with
 |error e=>exact hx e s' hq
 |ok fl=>
  cases fl with
  |ret u=>exact I.after hq
  |next=>exact False.elim hq
  |brk=>exact False.elim hq
  |cont=>exact False.elim hq
theorem aGY{pins:List (BF×BI)}{σ:St}{F:Hp}{s':BE}{e:BD}(hex:X.ex=[])(I:Inv X pins σ H s)(S:StF X.K X.B₀ F H σ sd)(h:CX1 X.prog X.w cls X.stack H s (λ_ _ H'=>Same H H'/\Smp H') e s'):
  ∃a T H',e=.ref a/\Inv X pins σ H' s'/\StF X.K X.B₀ F H' σ sd/\Exc X.s₀.heap s'.heap H' a T cls/\∀p∈X.pn++pins,p.1≠a/\p.1≠T:=by
 obtain⟨a,T,H',rfl,os,bare,un,hok,x,sH,smH⟩:=h;have I2:Inv X pins σ H' s':=I.call' os un hok bare (λb z=>absurd z<|by simp)
 have fr:∀b,s.heap.get? b=none->X.s₀.heap.get? b=none:=λb q=>by
  cases g:X.s₀.heap.get? b with
  |none=>rfl
  |some o=>obtain⟨o1,q1⟩:=I.base.there b o g (λhb=>by rw[hex] at hb;cases hb);rw[q] at q1;cases q1
 have nw:∀b,s.heap.get? b=none->∀p∈X.pn++pins,p.1≠b:=λb q p hp z=>by have:=(I.pin p hp).1;rw[z,q] at this;cases this
 exact⟨a,T,H',rfl,I2,⟨S.base,S.sub.trans sH,smH,S.slots.mono (Same.refl _) λl hl=>⟨(S.slots.owns hl).1,λob e=>sH _ _ e⟩,S.nd⟩,⟨x.free,fr a x.new,x.freeT,fr T x.newT,x.obj⟩,λp hp=>⟨nw a x.new p hp,nw T x.newT p hp⟩⟩
theorem aGV{x:Str}{p:Pos}{k n:Nat}{C:List D->Prop}{dvs:List V}{dws:List BD}{dds:List D}(G:jS X.prog X.w X.K X.mg X.base x k n C cls dvs dws)(hex:X.ex=[])(hr:Room k X.A)(hg:Gl X x)(ha:PAd X sd (e::es) (ds.map R.val))(hdv:∀H,RepL X.K H dds dvs)(hc:C (ds++dds))(hn:ds.length+dds.length=n)(ht:Takes X cls sd)
  (hdb:(x==("__debug__":Str))=false:=by decide) (he:AC (e::es) X.env=(false,eval e X.env)::AC es X.env:=by rfl) (hpl:(Ae pos<|AC es X.env).any (·.1)=false:=by rfl):
  PEx X sd (.Call (.Name x p) (e::es) [] pos):=⟨fun σ F H S pins s I=>by
 obtain⟨f,fd,ps,hm,hk,bd,hd,G⟩:=G.ex;refine Aa<|oP I hg hm ?_ hdb;refine oK (h₀:=X.base) I.ok.mod.kin hk (thn (ha σ F H S pos pins s I) λus s1 ⟨vs,H1,I1,r,F1,S1,s1',q⟩=>⟨I1.kIn, ?_⟩) he hpl;have rl:RepL X.K H1 (ds++dds) (vs++dvs):=(q.vals.mono S1.sub).app<|hdv H1;refine aBI (Q:=λ_ _=>False) (Ex:=λ_ _ H'=>Same H1 H'/\Smp H') G hr bd hd I1 r ⟨by rw[rl.len,aM];exact hn,S1.smp,ds++dds,rl,hc,λa H' q1 q2=>⟨q1,q2⟩⟩ λe s' hcx=> ?_
 obtain⟨a,T,H',rfl,I2,S2,x2,pn⟩:=aGY hex I1 S1 hcx
 exact ht pins σ F1 H' s' a T I2 S2 x2 pn⟩
variable {x:Str}{st:BJ}{fd:AX}{ps:List Str}{k:Nat}{C:List D->Prop}
theorem fn_x{oc:BD}{od:Option BF}{osl:Array (Option BD)}{dV kV doc pm ct:BD}{an:Option BF}(lk:K.lookup f=some ⟨oc,od,.func<|dI x qual (gL st) (dY st) (bF st) dV kV doc pm an cdv ct,osl⟩)(hcd:iV K cdv qual=true)(S:jD N ps (bF st))
  (body:∀ (A:BG) (outer:List Env) (s:BE) (H:Hp) (E:XK),Room k (A.deeper (As qual (bF st) s.heap.objs.size f cdv))→(∀a H',Same H H'→Smp H'→E (.ref a) (some a) H')→∀ds,ds.length=ps.length→C ds→
   PSd (jL (CX1 P w cls) P w K mg base N qual (bF st) f cdv A outer s H E) (init N.length ds) (dY st) {nx:=λ_=>False,rt:=λ_=>False}):
  FnOk P w K mg base (CX1 P w cls) (k+1) f (dI x qual (gL st) (dY st) (bF st) dV kV doc pm an cdv ct) ps (spX K ps.length C):=by
 refine aIS lk hcd S (λvs H Q E h=>h.1) λA outer s H vs Q E hr h=> ?_
 obtain⟨hl,sm,ds,rl,c,q⟩:=h;have hds:ds.length=ps.length:=by rw[<-rl.len];exact hl
 refine⟨_,pQ, ?_⟩;have hlen:N.length-vs.length=N.length-ds.length:=by rw[rl.len]
 have S0:StF K H H H (L2.start N vs) (init N.length ds):=by
  refine⟨Same.refl _,Same.refl _,sm, ?_, ?_⟩
  ·unfold L2.start init;rw[hlen];exact lJ (m:=0) rl
  ·unfold init;rw[lQ];exact cH
 exact(body A outer s H E hr q ds hds c (L2.start N vs) H H S0).imp (λ_ _ ⟨_,_,_,_,z⟩=>z.elim) (λ_ _ ⟨_,_,z⟩=>z.elim) (λ_ _ ⟨_,_,_,_,z⟩=>z.elim) λ_ _ ⟨_,_,_,_,z⟩=>z.elim
theorem aHg(F:Fun K x qual st f fd)(S:jD N ps (bF st))(hm:mg x=some (.ref f))(hb:∀ (kV doc pm:BD) (an:Option BF) (cdv ct:BD) (us:List BD),us.length=ps.length->bindArgs (dI x qual (gL st) (dY st) (bF st) .none kV doc pm an cdv ct) ⟨us,[]⟩=pure (ps.zip us))
  (body:∀ (cdv:BD) (A:BG) (outer:List Env) (s:BE) (H:Hp) (E:XK),Room k (A.deeper (As qual (bF st) s.heap.objs.size f cdv))→(∀a H',Same H H'→Smp H'→E (.ref a) (some a) H')→∀ds,ds.length=ps.length→C ds→
   PSd (jL (CX1 P w cls) P w K mg base N qual (bF st) f cdv A outer s H E) (init N.length ds) (dY st) {nx:=λ_=>False,rt:=λ_=>False}):jS P w K mg base x (k+1) ps.length C cls [] []:=by
 have hbd:=F.binds hb;obtain⟨oc,od,kV,doc,pm,an,cdv,ct,osl,rfl,lk,hcd⟩:=F.ex;exact⟨f,_,ps,hm,F.kp,hbd,.nil,fn_x lk hcd S<|body cdv⟩
variable {pins:List (BF×BI)}{σ:St}{F:Hp}{h':BH}{S:List BF}
theorem tK{h:BH}{c:BF}{v:Option BD}(k:h.UpToSlots h')(z:h.IsCell c v):h'.IsCell c v:=by
 obtain⟨o,ho,hd⟩:=z;obtain⟨sl,q⟩:=k c o ho λvs e=>by rw[hd] at e;cases e
 exact⟨_,q,hd⟩
theorem aBH(I:Inv X pins σ H s)(hS:∀b∈S,H b=none/\X.s₀.heap.get? b=none/\∀p∈X.pn++pins,p.1≠b)(k1:Heap.StaysIn (mJ s.heap<|frs X.stack++S) h')(k4:s.heap.UpToSlots h'):Inv X pins σ H {s with heap:=h'}:=by
 have stay:∀b o,b∉frs X.stack++S->s.heap.get? b=some o->h'.get? b=some o:=λb o hb q=>k1 b o (by rw[jZ hb];exact q)
 have out:∀b o,X.s₀.heap.get? b=some o->b∉X.fs->b∉frs X.stack++S:=λb o q hb hm=>by
  rcases aK.mp hm with hm|hm
  ·rcases aR.mp (I.stkSub b hm) with e|hm
   ·have lt:=aP q;rw[e] at lt;exact absurd lt<|mV.mpr I.ok.above
   ·exact hb hm
  ·rw[(hS b hm).2.1] at q;cases q
 have slot:∀b o,X.s₀.heap.get? b=some o->X.H₀ b=none->b∈X.fs->b∉X.ex->∃sl,h'.get? b=some {o with slots:=sl}:=λb o q n hb hx=>by obtain⟨sl,q1⟩:=I.base.slot b o q n hb hx;obtain⟨_,o',q2,nf⟩:=I.ok.funs.mem hb;rw[q] at q2;cases q2;obtain⟨sl2,q3⟩:=k4 b _ q1 nf;exact⟨sl2,q3⟩
 have tr:∀b u,H b=some u->b∉frs X.stack++S:=λb u e hm=>by
  rcases aK.mp hm with hm|hm
  ·rw[I.env0.frf b hm] at e;cases e
  ·rw[(hS b hm).1] at e;cases e
 obtain⟨m,hn,hl⟩:=id I.loc;refine⟨I.ok,I.os,I.bare,⟨λb o q n hb hx=>stay b o (out b o q hb)<|I.base.keep b o q n hb hx,slot,I.base.free,λb o q hx=> ?_,I.base.tups,I.base.frzs,I.base.tbls⟩,⟨m,k4.ns hn,λi x v e1 e2 e3=> ?_⟩,λx c e=> ?_,I.free,I.freeC,λp hp=> ?_,λb u e=> ?_,I.len⟩
 ·by_cases hb:b∈X.fs
  ·obtain⟨sl,q2⟩:=slot b o q (I.ok.frf b hb) hb hx;exact⟨_,q2⟩
  ·obtain⟨o1,q1⟩:=I.base.there b o q hx;exact⟨o1,stay b o1 (out b o q hb) q1⟩
 ·obtain⟨u,r,q⟩:=hl i x v e1 e2 e3;refine⟨u,r, ?_⟩
  rcases q with q|⟨k,c,e,z⟩
  ·exact .inl q
  ·exact .inr ⟨k,c,e,tK k4 z⟩
 ·obtain⟨v,z⟩:=I.cell x c e;exact⟨v,tK k4 z⟩
 ·obtain⟨e,n,ne,nf,d⟩:=I.pin p hp;refine⟨stay p.1 p.2 (λhm=> ?_) e,n,ne,nf,d⟩
  rcases aK.mp hm with hm|hm
  ·rcases aR.mp (I.stkSub _ hm) with z|z
   ·exact ne z
   ·exact nf z
  ·exact(hS _ hm).2.2 p hp rfl
 ·refine(I.hok b u e).stay (λc v hc q=>stay c v ?_ q) (λ_ q=>q) λ_ _ q=>q
  rcases hc with z|z
  ·rw[z];exact tr b u e
  ·exact tr c _ z
theorem aJF{ξ:BD->BE->Prop}{pn:List (BF×BI)}(I:Inv X pins σ H s)(S:StF X.K X.H₀ F H σ sd)(hpn:pn=X.pn++pins):Inv {X with H₀:=F,B₀:=F,hB:=λ_ _ e _=>e,xe:=ξ,pn:=pn} [] σ H s:=by
 have n0:∀b,F b=none->X.H₀ b=none:=λb n=>by
  cases q:X.H₀ b with
  |none=>rfl
  |some u=>rw[S.base _ _ q] at n;cases n
 have fn:∀b,H b=none->F b=none:=λb n=>S.sub.free n
 subst hpn
 refine ⟨⟨I.ok.mod,I.ok.kind,I.ok.glob,I.ok.blt,I.ok.above,I.ok.inj,I.ok.has,I.ok.cab,I.ok.hd,I.ok.frames,I.ok.stk,I.ok.exf,fun b o e=>⟨(I.ok.bs b o e).1,fn b (I.bs b o e).2⟩,I.ok.bsz,I.ok.noex,I.ok.exfs,I.ok.funs,fun b hb=> ?_⟩,I.os,I.bare,
  ⟨λb o q n hb hx=>I.base.keep b o q (n0 b n) hb hx,λb o q n hb hx=>I.base.slot b o q (n0 b n) hb hx,λb o q n hx=>I.base.free b o q (n0 b n) hx,I.base.there,λb xs e=>S.sub _ _ e,λb o u e=>S.sub _ _ e,λb ps e=>⟨#[],by rw[S.sub _ _ e];simp⟩⟩,I.loc,I.cell,I.free,I.freeC,λp hp=> ?_,I.hok,I.len⟩
 ·obtain⟨_,o,q,_⟩:=I.ok.funs.mem hb;exact fn b<|I.base.free b o q (I.ok.frf b hb) λhx=>I.ok.exfs b hx hb
 ·rw[bZ] at hp;exact I.pin p hp
theorem aJS{ξ:BD->BE->Prop}{pn:List (BF×BI)}{pins':List (BF×BI)}{σ':St}{H':Hp}{s':BE}(I0:Inv X pins σ H s)(S:StF X.K X.H₀ F H σ sd)(hpn:pn=X.pn++pins)(I:Inv {X with H₀:=F,B₀:=F,hB:=λ_ _ e _=>e,xe:=ξ,pn:=pn} pins' σ' H' s'):Inv X pins σ' H' s':=by
 subst hpn;have nf:∀b o,X.s₀.heap.get? b=some o->X.H₀ b=none->b∉X.ex->F b=none:=λb o q n hx=>S.sub.free<|I0.base.free b o q n hx
 refine⟨I0.ok,I.os,I.bare,⟨λb o q n hb hx=>I.base.keep b o q (nf b o q n hx) hb hx,λb o q n hb hx=>I.base.slot b o q (nf b o q n hx) hb hx,λb o q n hx=>I.base.free b o q (nf b o q n hx) hx,I.base.there,λb xs e=>I.base.tups b xs<|S.base _ _ e,λb o u e=>I.base.frzs b o u<|S.base _ _ e,λb ps e=>I.base.tbls b ps<|S.base _ _ e⟩,I.loc,I.cell,I.free,I.freeC,λp hp=>I.pin p<|aS _ hp,I.hok,I.len⟩
theorem aDU{m:Str->Option BD}{j:Nat}{n:Str}{v:Option BD}{t':Nat}(I:Inv X pins σ H s)(hN:X.N.Nodup)(hj:X.N[j]? =some n)(hk:X.env.scope.names.lookup n=some .local)(hn:s.heap.Ns X.env.locals m)
  (hl:∀ (i:Nat) (x:Str) (v:V),X.N[i]? =some x->σ[i]? =some (some v)->Vis X.env.scope x->∃u,RelV v u/\aMb X.env s.heap m x u) (hn':h'.Ns X.env.locals (λx=>if x=n then v else m x)) (hs:Heap.SameBut X.env.locals s.heap h'):Inv X pins (σ.set j none) H {s with heap:=h',toks:=t'}:=by
 have cne:=I.cne;have hiσ:j<σ.length:=by rw[I.len];exact(aF.mp hj).1
 refine⟨I.ok,I.os,I.bare,⟨λb o e n hb hx=> ?_,λb o e n hb hx=> ?_,I.base.free,λb o e hx=> ?_,I.base.tups,I.base.frzs,I.base.tbls⟩,⟨_,hn',λi y v' e1 e2 e3=> ?_⟩,λy c e=> ?_,I.free,I.freeC,λp hp=> ?_,λb ob e=> ?_,by rw[aIj];exact I.len⟩
 ·exact(hs.2 b (bN<|aQ (aP e) I.ok.above)).trans<|I.base.keep b o e n hb hx
 ·obtain⟨sl,e1⟩:=I.base.slot b o e n hb hx;exact⟨sl,(hs.2 b (bN<|aQ (aP e) I.ok.above)).trans e1⟩
 ·obtain⟨o',e1⟩:=I.base.there b o e hx;exact⟨o',(hs.2 b (bN<|aQ (aP e) I.ok.above)).trans e1⟩
 ·by_cases hi:i=j
  ·subst hi;rw[fH hiσ] at e2;cases e2
  ·rw[gZ<|Ne.symm hi] at e2;obtain⟨u',r',q⟩:=hl i y v' e1 e2 e3;refine⟨u',r', ?_⟩
   rcases q with⟨k,e⟩|⟨k,c,e,z⟩
   ·refine .inl ⟨k, ?_⟩;have:y≠n:=λe=>hi (uF hN e1<|e▸hj)
    simp[this,e]
   ·exact .inr ⟨k,c,e,z.sameBut hs<|cne y c e⟩
 ·obtain⟨w',z⟩:=I.cell y c e;exact⟨w',z.sameBut hs<|cne y c e⟩
 ·obtain⟨e,n,ne,nf,d⟩:=I.pin p hp;exact⟨(hs.2 p.1 ne).trans e,n,ne,nf,d⟩
 ·refine(I.hok b ob e).stay (λc w' hc q=>(hs.2 c ?_).trans q) (λ_ q=>q) λ_ _ q=>q
  rintro rfl
  rcases hc with z|hc
  ·have:=I.free;rw[z,e] at this;cases this
  ·rw[I.free] at hc;cases hc
variable {a T:BF}{M:Model}{Ex:BD->BE->Prop}
structure aIi(X:Cx)(pins:List (BF×BI))(σ:St)(H:Hp)(s:BE)(a T:BF)(cls fl:BD):Prop where
 inv:Inv X pins σ H s
 fa:H a=none/\X.s₀.heap.get? a=none/\∀p∈X.pn++pins,p.1≠a
 fT:H T=none/\X.s₀.heap.get? T=none/\∀p∈X.pn++pins,p.1≠T
 obj:∃oe vs oT ts a0,s.heap.get? a=some oe/\(oe.cls=cls/\vs[0]? =some a0)/\oe.data=.fields vs/\vs[1]? =some (.ref T)/\T≠a/\s.heap.get? T=some oT/\oT.data=.fields ts/\ts[3]? =some fl
theorem yW(h:aIi X pins σ H s a T cls fl):∀b∈[a,T],H b=none/\X.s₀.heap.get? b=none/\∀p∈X.pn++pins,p.1≠b:=λb hb=>by
 simp only[aR,eJ,or_false] at hb
 rcases hb with rfl|rfl
 ·exact h.fa
 ·exact h.fT
theorem aCi{Q:Unit->BE->Prop}(hst:X.stack=X.env::X.outer/\X.env.frame=some X.env.locals)(hfr:A.frames=some X.stack)(hex:X.ex=[])(h:aIi X pins σ H s a T cls .none)(k:∀h' T',aIi X pins σ H {s with heap:=h'} a T' cls (rawInt X.env.locals)->Q () {s with heap:=h'}):
  AK M A (noteFrame (.ref a) X.env) Q Ex s:=by
 have hS:=yW h;obtain⟨oe,vs,oT,ts,a0,he,hc,hd,h1,hTe,hT,hdT,h3⟩:=h.obj;have I:=h.inv;have fu:Heap.FunFrames s.heap (mJ s.heap<|frs X.stack++[a,T]) X.stack:=mZ I.env0.funs λb hb=>jC<|aS _ hb
 have fm:=hfr;rw[hst.1] at fm;have fu2:=fu;rw[hst.1] at fu2;have ca:(mJ s.heap<|frs X.stack++[a,T]).get? a=none:=jC (aH _<|by simp);have cT:(mJ s.heap<|frs X.stack++[a,T]).get? T=none:=jC (aH _<|by simp);refine wpAny_noteFrame_onW (base:=mJ s.heap<|frs X.stack++[a,T]) (cls:=cls) (a0:=a0) fm (by rw[hst.1];exact fu2) hst.2 ⟨oe,vs,T,oT,ts,he,hc,hd,h1,cT,hTe,hT,hdT,h3⟩ (λb o q=>(pO q).2) ca λh' L=> ?_
 rw[<-hst.1] at L;obtain⟨k1,k2,⟨oe',vs',T',oT',ts',he',hc',hd',h1',hnT',hTe',hT',hdT',h3'⟩,k4⟩:=L;have I2:=aBH I hS k1 k4
 have Tn:s.heap.get? T'=none\/T'∈[a,T]:=by
  by_cases hm:T'∈frs X.stack++[a,T]
  ·rcases aK.mp hm with hm|hm
   ·obtain⟨_,o,q,nf⟩:=k2.mem hm;rw[hT'] at q;cases q;exact(nf ts' hdT').elim
   ·exact .inr hm
  ·rw[jZ hm] at hnT';exact .inl hnT'
 refine k h' T' ⟨I2,h.fa, ?_,oe',vs',oT',ts',a0,he',hc',hd',h1',hTe',hT',hdT',h3'⟩
 rcases Tn with q|q
 ·refine⟨?_, ?_,λp hp z=> ?_⟩
  ·cases g:H T' with
   |none=>rfl
   |some u=>obtain⟨ob,q2⟩:=tP<|I.hok T' u g;rw[q] at q2;cases q2
  ·cases g:X.s₀.heap.get? T' with
   |none=>rfl
   |some o=>obtain⟨o1,q1⟩:=I.base.there T' o g (λhb=>by rw[hex] at hb;cases hb);rw[q] at q1;cases q1
  ·have:=(I.pin p hp).1;rw[z,q] at this;cases this
 ·exact hS T' q
theorem rE{fl:BD}{fr:Option BF}{Q:Unit->BE->Prop}(hst:X.stack=X.env::X.outer/\X.env.frame=some X.env.locals)(h:aIi X pins σ H s a T cls fl)(k:∀h',aIi X pins σ H {s with heap:=h'} a T cls (fr.elim Value.none λf=>rawInt f)->Q () {s with heap:=h'}):
  AK M A (setFlight (.ref a) fr) Q Ex s:=by
 have hS:=yW h;obtain⟨oe,vs,oT,ts,a0,he,hc,hd,h1,hTe,hT,hdT,h3⟩:=h.obj;have I:=h.inv;have hsz3:3<ts.size:=(Array.getElem?_eq_some_iff.mp h3).1
 have other:∀b,b≠T->(s.heap.update T (Obj.mapFields (·.setIfInBounds 3 (fr.elim Value.none λf=>rawInt f)))).get? b=s.heap.get? b:=
  λb hb=>cB _ _<|Ne.symm hb
 have noRecord:∀b o,s.heap.get? b=some o->(∀vs,o.data≠ .fields vs)->b≠T:=λb o hb hnf q=>by rw[q,hT] at hb;injection hb with hb;subst hb;exact hnf ts hdT
 unfold setFlight;refine AA<|wpAny_field he hd h1 ?_;rw[if_pos (show(Value.ref T !=Value.none)=true from by simp)];refine wpAny_setField hT hdT hsz3<|k _ ⟨aBH I hS (λb o q=> ?_) λb o q nf=>⟨o.slots,(other b<|noRecord b o q nf).trans q⟩,h.fa,h.fT,oe,vs,_,_,a0,(other a<|Ne.symm hTe).trans he,hc,hd,h1,hTe,fM _ hT (Obj.isFreed_of_fields<|Obj.data_mapFields hdT _),Obj.data_mapFields hdT _,by simp[hsz3]⟩;obtain⟨q1,q2⟩:=pO q;exact(other b λz=>q1 (aH _<|by simp[z])).trans q2
theorem aHj{body suite:List BJ}{b₀:BJ}{xE n:Str}{np hpos:Pos}{CE:BF}(j:Nat)(hN:X.N.Nodup)(hj:X.N[j]? =some n)(hloc:X.env.scope.names.lookup n=some .local)(hg:Gl X xE)(hm:X.mg xE=some (.ref CE))(hmt:uS X.K cls (.ref CE)=some true)
  (hb:∀ (ξ:BD->BE->Prop) (pn:List (BF×BI)) (F:Hp),Takes {X with H₀:=F,B₀:=F,hB:=λ_ _ e _=>e,xe:=ξ,pn:=pn} cls sd->PSd {X with H₀:=F,B₀:=F,hB:=λ_ _ e _=>e,xe:=ξ,pn:=pn} sd body {nx:=λ_=>False,rt:=λ_=>False})
  (hh:∀ (a:BF) (oe:BI) (pn:List (BF×BI)),(a,oe)∈pn->oe.cls=cls->PSd {X with A:=X.A.mark (some<|.ref a),calm:=false,pn:=pn,xe:=λ_ _=>False} (sd.set j<|isA a) (b₀::suite) {nx:=λsd'=>E.nx<|sd'.set j .un,rt:=λ_=>False})
  (hB₀:X.B₀=X.H₀:=by rfl) (hex:X.ex=[]:=by rfl) (hst:X.stack=X.env::X.outer/\X.env.frame=some X.env.locals:=by exact⟨rfl,rfl⟩) (hdb:(xE==("__debug__":Str))=false:=by decide):
  PSd1 X sd (.Try body [.ExceptHandler (some<|.Name xE np) (some n) (b₀::suite) hpos] [] [] pos) E:=.mk λσ F H S pins s I=>by
 rw[hB₀] at S;obtain⟨ξ,hξ⟩:∃ξ:BD->BE->Prop,ξ=λe s'=>∃a T σ' F' H',e=.ref a/\Inv X pins σ' H' s'/\StF X.K F F' H' σ' sd/\Exc X.s₀.heap s'.heap H' a T cls/\∀p∈X.pn++pins,p.1≠a/\p.1≠T:=⟨_,rfl⟩
 have I':Inv {X with H₀:=F,B₀:=F,hB:=λ_ _ e _=>e,xe:=ξ,pn:=X.pn++pins} [] σ H s:=aJF I S rfl;have S':StF X.K F F H σ sd:=⟨Same.refl _,S.sub,S.smp,S.slots,S.nd⟩
 have tk:Takes {X with H₀:=F,B₀:=F,hB:=λ_ _ e _=>e,xe:=ξ,pn:=X.pn++pins} cls sd:=λpins' σ' F' H' s' a T I2 S2 x2 hp=>by show ξ _ _;rw[hξ];exact⟨a,T,σ',F',H',rfl,aJS I S rfl I2,S2,x2,λp hp'=>hp p<|aS _ hp'⟩
 refine wpAny_Try_except<|AW (hb ξ (X.pn++pins) F tk σ F H S' [] s I') (λf s1 q=> ?_) λe s1 hx=> ?_
 ·cases f with
  |next=>obtain⟨_,_,_,_,_,_,_,z⟩:=q;exact z.elim
  |brk=>obtain⟨_,_,_,_,_,_,_,z⟩:=q;exact z.elim
  |cont=>obtain⟨_,_,_,_,_,_,_,z⟩:=q;exact z.elim
  |ret u=>obtain⟨_,_,_,_,_,_,_,z⟩:=q;exact z.elim
 ·have hx:ξ e s1:=hx;rw[hξ] at hx;obtain⟨a,T,σ1,F1,H1,rfl,I1,S1,x1,hp⟩:=hx;have hd:aIi X pins σ1 H1 s1 a T cls .none:=⟨I1,⟨x1.free,x1.new,λp h=>(hp p h).1⟩,⟨x1.freeT,x1.newT,λp h=>(hp p h).2⟩,x1.obj⟩;refine aCi hst I.ok.frames hex hd λh2 T2 hd2=> ?_
  refine rE hst hd2 λh3 hd3=> ?_
  have LT:PySem.W.Looks (AH X.prog X.w) h3 (typeOf<|.ref a) cls:=by obtain⟨oe,vs,oT,ts,a0,he,hc,_⟩:=hd3.obj;exact hc.1▸(PySem.W.Looks.ld he).andThen .now
  refine wpAny_handleBy_cons (codeAny_handlers_test<|Calls.Name_function_global hd3.inv.ok.kind hg (Calls.loadGlobal_global (by rw[hd3.inv.ok.glob];exact hd3.inv.mod.glob.keeps hd3.inv.bk) hm<|(PySem.W.exm_one hd3.inv.kIn LT hmt).at ?_) hdb) (by intro q;cases q);refine codeAny_handlers_suite_as<|rE hst hd3 λh4 hd4=> ?_;obtain⟨oe,vs,oT,ts,a0,he,hc,hdt,_⟩:=hd4.obj
  have fsub:∀b∈X.fs,b∈frs X.stack:=λb hb=>by unfold frs;rw[hst.1,fD,hst.2];exact aC _ hb
  have I5:=hd4.inv.pins_of (pins':=pins++[(a,oe)]) λp hp=>by
   rcases aK.mp hp with hp|hp
   ·exact hd4.inv.pin p<|aH _ hp
   ·rw[aD.mp hp];refine⟨he,hd4.fa.1,λz=> ?_,λz=> ?_,λv z=>by rw[hdt] at z;cases z⟩
    ·obtain⟨m,⟨o,es,ep,ho,r,_⟩,_⟩:=hd4.inv.loc;rw[<-z] at ho;have:oe=o:=bY.inj<|he.symm.trans ho;rw[<-this,hdt] at r;cases r
    ·obtain⟨_,o,q,nf⟩:=hd4.inv.stack.mem<|fsub a z;have:oe=o:=bY.inj<|he.symm.trans q;rw[<-this] at nf;exact nf vs hdt
  refine pY (v:=.ref a) I5 hN hj (.inl hloc) rfl (λs6 I6=> ?_)<|.inr hloc
  have I7:Inv {X with A:=X.A.mark (some<|.ref a),calm:=false,pn:=X.pn++(pins++[(a,oe)]),xe:=λ_ _=>False} [] (σ1.set j (some<|.ref a)) H1 s6:=
   ⟨⟨I6.ok.mod,I6.ok.kind,I6.ok.glob,I6.ok.blt,I6.ok.above,I6.ok.inj,I6.ok.has,I6.ok.cab,λz=>(by cases z),I6.ok.frames,I6.ok.stk,I6.ok.exf,I6.ok.bs,I6.ok.bsz,I6.ok.noex,I6.ok.exfs,I6.ok.funs,I6.ok.frf⟩,I6.os,I6.bare,I6.base,I6.loc,I6.cell,I6.free,I6.freeC,λp hp=>by rw[bZ] at hp;exact I6.pin p hp,I6.hok,I6.len⟩
  have S1':StF X.K X.B₀ F1 H1 σ1 sd:=hB₀▸⟨λb o e=>S1.base _ _<|S.base _ _ e,S1.sub,S1.smp,S1.slots,S1.nd⟩;have S7:StF X.K X.B₀ F1 H1 (σ1.set j (some<|.ref a)) (sd.set j<|isA a):=S1'.setX j ⟨.ref a,rfl,λb hb=>(by cases hb),λ_ _ _ _=>rfl⟩ cH λb hb=>by cases hb
  refine AW (hh a oe _ (by simp) hc.1 (σ1.set j (some<|.ref a)) F1 H1 S7 [] s6 I7) (λf s8 q=> ?_) λ_ _ z=>False.elim z
  cases f with
  |next=>
   obtain⟨σ8,H8,I8,sd8,F8,S8,s8',qn⟩:=q
   have I9:Inv X pins σ8 H8 s8:=⟨I.ok,I8.os,I8.bare,I8.base,I8.loc,I8.cell,I8.free,I8.freeC,fun p hp=>I8.pin p (by
    rw[bZ]
    rcases aK.mp hp with hp|hp
    ·exact aS _ hp
    ·exact aH _ (aS _ hp)),I8.hok,I8.len⟩
   obtain⟨m,hn,hl⟩:=id I9.loc;refine wpAny_nameGoes_keeps hloc hn (by rw[I9.ok.kind];rfl) λh9 v hn9 hs9=> ?_
   exact⟨σ8.set j none,H8,aDU I9 hN hj hloc hn hl hn9 hs9,sd8.set j .un,F8,⟨S8.base,S8.sub,S8.smp,S8.slots.set (z:=.un) (o:=none) trivial j,(gT (z:=.un) j S8.nd (λl hl=>by cases hl) cH).1⟩,λb o e=>s8' _ _<|S1.base _ _ e,qn⟩
  |brk=>obtain⟨_,_,_,_,_,_,_,z⟩:=q;exact z.elim
  |cont=>obtain⟨_,_,_,_,_,_,_,z⟩:=q;exact z.elim
  |ret u=>obtain⟨_,_,_,_,_,_,_,z⟩:=q;exact z.elim
variable {a:Expr}
theorem tX{ad C:BF}{oe:BI}{cv:V}{u:BD}{k:Bool}(hp:(ad,oe)∈X.pn)(hc:oe.cls=.ref C)(xc:aFY X.K C)(ru:∀u',RelV cv u'->u'=u)(hk:bP X.K (.ref C) u=some k):
  kI X (.builtin "isinstance") (λxs H Q=>xs=[.ref ad,cv]/\Q (.bl k) H):=by
 intro pins s σ H xs us Q I r h;obtain⟨rfl,q⟩:=h;obtain⟨u1,u2,rfl,r1,r2⟩:=aGp r;cases(show u1=Value.ref ad from r1);have e:=ru u2 r2;subst e;exact dO (zB xc) I.kIn ⟨oe,(I.pin _<|aS _ hp).1,hc⟩ hk (by intro q;cases q) λtk=>⟨.bl k,H,I.tok tk,rfl,q⟩
theorem aEb(j:Nat){ad C CE:BF}{oe:BI}{k:Bool}{y:Str}{p p1 p2:Pos}(hp:(ad,oe)∈X.pn)(hc:oe.cls=.ref C)(xc:aFY X.K C)(hg:Gl X "isinstance")(hm:X.mg "isinstance"=none)(hgx:Gl X x)(hmx:X.mg x=some (.ref CE))(hk:bP X.K (.ref C) (.ref CE)=some k)(hj:sd[j]? =some (isA ad))(hy:PE X (.Name y p1) (iX j))(hdb:(x==("__debug__":Str))=false:=by decide)
  (he:AC (.Name y p1::[.Name x p2]) X.env=(false,eval (.Name y p1) X.env)::AC [.Name x p2] X.env:=by rfl) (hpl:(Ae pos<|AC [.Name x p2] X.env).any (·.1)=false:=by rfl) (hs2:AC [.Name x p2] X.env=(false,eval (.Name x p2) X.env)::AC [] X.env:=by rfl):
  PEd X sd (.Call (.Name "isinstance" p) [.Name y p1, .Name x p2] [] pos) (.val<|.bl k):=.mk λσ F H S=>
 (jG (tX (cv:=.ref CE) hp hc xc (λu' r=>r) hk) hg hm boot_isinstance (dE hy (dE (lS hgx hmx (v:=.ref CE) rfl hdb) pa_nil hs2) he) (by decide) (by decide) he hpl).to
  ⟨.ref ad,yG S hj,rfl,F,S,Same.refl _,by simp only[ResOk,Rep]⟩
theorem aDh(j:Nat){ad C:BF}{oe:BI}{k:Bool}{y:Str}{n:String}{p p1 p2:Pos}(hp:(ad,oe)∈X.pn)(hc:oe.cls=.ref C)(xc:aFY X.K C)(hg:Gl X "isinstance")(hm:X.mg "isinstance"=none)(hgx:Gl X x)(hmx:X.mg x=none)(hv:Ac x=some (.type n))(hk:bP X.K (.ref C) (.type n)=some k)(hj:sd[j]? =some (isA ad))(hy:PE X (.Name y p1) (iX j))(hn:x≠"__name__":=by decide)(hdb:(x==("__debug__":Str))=false:=by decide)
  (he:AC (.Name y p1::[.Name x p2]) X.env=(false,eval (.Name y p1) X.env)::AC [.Name x p2] X.env:=by rfl) (hpl:(Ae pos<|AC [.Name x p2] X.env).any (·.1)=false:=by rfl) (hs2:AC [.Name x p2] X.env=(false,eval (.Name x p2) X.env)::AC [] X.env:=by rfl):
  PEd X sd (.Call (.Name "isinstance" p) [.Name y p1, .Name x p2] [] pos) (.val<|.bl k):=.mk λσ F H S=>
 (jG (tX (cv:=.ty n) hp hc xc (λu' r=>r) hk) hg hm boot_isinstance (dE hy (dE (aBG hgx hmx hv hn hdb) pa_nil hs2) he) (by decide) (by decide) he hpl).to
  ⟨.ref ad,yG S hj,rfl,F,S,Same.refl _,by simp only[ResOk,Rep]⟩
variable {s':BE}{tg iter:Expr}{Old:BF->Prop}
structure ExcO(Old:BF->Prop)(h:BH)(H:Hp)(a T:BF)(cls:BD):Prop where
 free:H a=none
 new:¬ Old a
 freeT:H T=none
 newT:¬ Old T
 obj:∃oe vs oT ts a0,h.get? a=some oe/\(oe.cls=cls/\vs[0]? =some a0)/\oe.data=.fields vs/\vs[1]? =some (.ref T)/\T≠a/\h.get? T=some oT/\oT.data=.fields ts/\ts[3]? =some .none
def aFb(X:Cx)(Old:BF->Prop)(cls:BD)(sd:List Slot):Prop:=∀ (pins:List (BF×BI)) (σ:St) (F H:Hp) (s:BE) (a T:BF),Inv X pins σ H s->StF X.K X.B₀ F H σ sd->ExcO Old s.heap H a T cls->(∀p∈X.pn++pins,p.1≠a/\p.1≠T)->X.xe (.ref a) s
def aIF(X:Cx)(Old:BF->Prop):Prop:=∀ (pins:List (BF×BI)) (σ:St) (H:Hp) (s:BE),Inv X pins σ H s->∀b,Old b->∃o,s.heap.get? b=some o
def Ent(X:Cx):BF->Prop:=λb=>∃o,X.s₀.heap.get? b=some o
theorem aCD(hex:X.ex=[]):aIF X (Ent X):=λpins σ H s I b ⟨o,g⟩=>I.base.there b o g λhb=>by rw[hex] at hb;cases hb
theorem Takes.o(h:Takes X cls sd):aFb X (Ent X) cls sd:=λpins σ F H s a T I S x hp=>
 h pins σ F H s a T I S ⟨x.free,by
  cases g:X.s₀.heap.get? a with
  |none=>rfl
  |some o=>exact(x.new ⟨o,g⟩).elim,x.freeT,by
  cases g:X.s₀.heap.get? T with
  |none=>rfl
  |some o=>exact(x.newT ⟨o,g⟩).elim,x.obj⟩ hp
theorem aEQ{p:Pos}{n:Nat}{dvs:List V}{dws:List BD}{dds:List D}(G:jS X.prog X.w X.K X.mg X.base x k n C cls dvs dws)(hh:aIF X Old)(hr:Room k X.A)(hg:Gl X x)(ha:PAd X sd (e::es) (ds.map R.val))(hdv:∀H,RepL X.K H dds dvs)(hc:C (ds++dds))(hn:ds.length+dds.length=n)(ht:aFb X Old cls sd)
  (hdb:(x==("__debug__":Str))=false:=by decide) (he:AC (e::es) X.env=(false,eval e X.env)::AC es X.env:=by rfl) (hpl:(Ae pos<|AC es X.env).any (·.1)=false:=by rfl):
  PEx X sd (.Call (.Name x p) (e::es) [] pos):=⟨fun σ F H S pins s I=>by
 obtain⟨f,fd,ps,hm,hk,bd,hd,G⟩:=G.ex;refine Aa<|oP I hg hm ?_ hdb;refine oK (h₀:=X.base) I.ok.mod.kin hk (thn (ha σ F H S pos pins s I) λus s1 ⟨vs,H1,I1,r,F1,S1,s1',q⟩=>⟨I1.kIn, ?_⟩) he hpl;have rl:RepL X.K H1 (ds++dds) (vs++dvs):=(q.vals.mono S1.sub).app<|hdv H1;refine aBI (Q:=λ_ _=>False) (Ex:=λ_ _ H'=>Same H1 H'/\Smp H') G hr bd hd I1 r ⟨by rw[rl.len,aM];exact hn,S1.smp,ds++dds,rl,hc,λa H' q1 q2=>⟨q1,q2⟩⟩ λe s' hcx=> ?_
 obtain⟨a,T,H',rfl,os,bare,un,hok,x,sH,smH⟩:=hcx;have I2:Inv X pins σ H' s':=I1.call' os un hok bare (λb z=>absurd z<|by simp)
 have nO:∀b,s1.heap.get? b=none->¬ Old b:=λb q z=>by obtain⟨o,g⟩:=hh pins σ H1 s1 I1 b z;rw[q] at g;cases g
 have nw:∀b,s1.heap.get? b=none->∀p∈X.pn++pins,p.1≠b:=λb q p hp z=>by have:=(I1.pin p hp).1;rw[z,q] at this;cases this
 exact ht pins σ F1 H' s' a T I2 ⟨S1.base,S1.sub.trans sH,smH,S1.slots.mono (Same.refl _) λl hl=>⟨(S1.slots.owns hl).1,λob e=>sH _ _ e⟩,S1.nd⟩ ⟨x.free,nO a x.new,x.freeT,nO T x.newT,x.obj⟩ λp hp=>⟨nw a x.new p hp,nw T x.newT p hp⟩⟩
def rSI:V->List V->Hp->VK->Prop:=λx vs H Q=>∃ (l:BF) (k:Key) (y:V) (kvs:List (Key×V)),x=.ref l/\vs=[kV k,y]/\H l=some (.dK kvs)/\kvs.length+1<=AL/\(∀z,eK kvs k=some z->Q z H)/\(eK kvs k=none->Q y (upd H l (.dK<|kvs++[(k,y)])))
theorem aJv:MtR X "dict.setdefault" rSI:=by
 intro pins s σ H x vs v us Q I rx rv h;obtain⟨l,k,y,kvs,rfl,rfl,hl,hz,q1,q2⟩:=h;obtain rfl:v=Value.ref l:=rx;cases rv with
 |cons r1 rv=>
  obtain⟨u,rfl,ru⟩:=Vals.one rv;obtain⟨z,hd,vs,rel,dd⟩:=aIU I.hok hl;refine call_meetsIn gG dd.typeIs rK (qZ _ _ _) (kt_meets_setdefault (dG X.prog X.w) l (aDB r1) hd u) ⟨vs,dd,by rw[<-rel.length];exact z,λw' hw=> ?_,λhn h' dd' hsm=> ?_⟩
  ·have rl:=rel.val k;rw[hw] at rl;cases hv:eK kvs k with
   |none=>rw[hv] at rl;cases rl
   |some z'=>rw[hv] at rl;exact⟨z',H,I.tok _,rl,q1 z' hv⟩
  ·have hn':eK kvs k=none:=by
    have rl:=rel.val k;rw[hn] at rl;cases hv:eK kvs k with
    |none=>rfl
    |some z'=>rw[hv] at rl;cases rl
   have rp:=rel.put k ru;rw[mO y hn'] at rp;have he:∃q,h'.get? l=some q:=let ⟨q,_,_,hq,_⟩:=dd';⟨q,hq⟩
   exact⟨y,_,lO (t':=s.toks+1) I (ob:=.dK<|kvs++[(k,y)]) (by rw[hl];exact True.intro) hsm he<|aFm (by rw[aM];exact hz) hd rp dd',ru,q2 hn'⟩
variable {H₀ F' H':Hp}{i:Nat}{l:BF}{ks:List Key}{ls:List BF}{dss:List (List D)}
theorem oS{o:HO}(h:Smp H)(a:BF)(z:aKB o):Smp (upd H a o):=λb u e=>by
 by_cases q:b=a
 ·subst q;rw[bM] at e;cases e;exact z
 ·rw[bD q] at e;exact h _ _ e
variable {ix:Expr}{m:List Bool}
theorem vQ:∀ {cs:List BF}{its:List BD},Vals (cs.map V.ref) its->its=cs.map Value.ref
 |[],_,h=>by cases h;rfl
 |a::cs,_,h=>by
  cases h with
  |cons r rv=>rw[vQ rv,aV];cases(show _=Value.ref a from r);rfl
theorem zG{ad C:BF}{oe:BI}{cs:List BF}{k:Bool}(hp:(ad,oe)∈X.pn)(hc:oe.cls=.ref C)(xc:aFY X.K C)(hk:gB X.K (.ref C) (cs.map Value.ref)=some k):
  kI X (.builtin "isinstance") (λxs H Q=>∃tp,xs=[.ref ad,.ref tp]/\H tp=some (.tup<|cs.map V.ref)/\Q (.bl k) H):=by
 intro pins s σ H xs us Q I r h;obtain⟨tp,rfl,ht,q⟩:=h;obtain⟨u1,u2,rfl,r1,r2⟩:=aGp r;cases(show u1=Value.ref ad from r1);cases(show u2=Value.ref tp from r2);obtain⟨_,its,rv,⟨cls,dd,data,sl⟩,g,c,⟨n,hd⟩,hdd⟩:=I.hok tp _ ht;simp only at c hd hdd;subst c hd hdd;have ei:=vQ rv;subst ei;exact PySem.W.kia_tup (zB xc) I.kIn ⟨oe,(I.pin _<|aS _ hp).1,hc⟩ g hk (by intro q;cases q) λtk=>⟨.bl k,H,I.tok tk,rfl,q⟩
theorem aDi(j:Nat){ad C C1 C2 C3 C4:BF}{oe:BI}{k:Bool}{y x1 x2 x3 x4:Str}{x0:Nat}{p p0 p1 p2 p3 p4 tp:Pos}(hp:(ad,oe)∈X.pn)(hc:oe.cls=.ref C)(xc:aFY X.K C)(hg:Gl X "isinstance")(hm:X.mg "isinstance"=none)
  (g1:Gl X x1) (m1:X.mg x1=some (.ref C1)) (g2:Gl X x2) (m2:X.mg x2=some (.ref C2)) (g3:Gl X x3) (m3:X.mg x3=some (.ref C3)) (g4:Gl X x4) (m4:X.mg x4=some (.ref C4)) (hk:gB X.K (.ref C) [.ref C1,.ref C2,.ref C3,.ref C4]=some k) (hj:sd[j]? =some (isA ad)) (hy:PE X (.Name y p0) (iX j))
  (d1:(x1==("__debug__":Str))=false:=by decide) (d2:(x2==("__debug__":Str))=false:=by decide) (d3:(x3==("__debug__":Str))=false:=by decide) (d4:(x4==("__debug__":Str))=false:=by decide)
  (s1:AC [.Name x1 p1, .Name x2 p2, .Name x3 p3, .Name x4 p4] X.env=(false,eval (.Name x1 p1) X.env)::AC [.Name x2 p2, .Name x3 p3, .Name x4 p4] X.env:=by rfl) (s2:AC [.Name x2 p2, .Name x3 p3, .Name x4 p4] X.env=(false,eval (.Name x2 p2) X.env)::AC [.Name x3 p3, .Name x4 p4] X.env:=by rfl)
  (s3:AC [.Name x3 p3, .Name x4 p4] X.env=(false,eval (.Name x3 p3) X.env)::AC [.Name x4 p4] X.env:=by rfl) (s4:AC [.Name x4 p4] X.env=(false,eval (.Name x4 p4) X.env)::AC [] X.env:=by rfl)
  (he:AC (.Name y p0::[.Tuple [.Name x1 p1, .Name x2 p2, .Name x3 p3, .Name x4 p4] x0 tp]) X.env=(false,eval (.Name y p0) X.env)::AC [.Tuple [.Name x1 p1, .Name x2 p2, .Name x3 p3, .Name x4 p4] x0 tp] X.env:=by rfl)
  (hpl:(Ae pos<|AC [.Tuple [.Name x1 p1, .Name x2 p2, .Name x3 p3, .Name x4 p4] x0 tp] X.env).any (·.1)=false:=by rfl)
  (hs2:AC [.Tuple [.Name x1 p1, .Name x2 p2, .Name x3 p3, .Name x4 p4] x0 tp] X.env=(false,eval (.Tuple [.Name x1 p1, .Name x2 p2, .Name x3 p3, .Name x4 p4] x0 tp) X.env)::AC [] X.env:=by rfl):
  PEd X sd (.Call (.Name "isinstance" p) [.Name y p0, .Tuple [.Name x1 p1, .Name x2 p2, .Name x3 p3, .Name x4 p4] x0 tp] [] pos) (.val<|.bl k):=.mk λσ F H S=>
 (jG (zG (cs:=[C1,C2,C3,C4]) hp hc xc hk) hg hm boot_isinstance (dE hy (dE (aBh<|dE (lS g1 m1 (v:=.ref C1) rfl d1) (dE (lS g2 m2 (v:=.ref C2) rfl d2) (dE (lS g3 m3 (v:=.ref C3) rfl d3) (dE (lS g4 m4 (v:=.ref C4) rfl d4) pa_nil s4) s3) s2) s1) pa_nil hs2) he) (by decide) (by decide) he hpl).to
  ⟨.ref ad,yG S hj,by show 4≤AL; decide,fun q hq=>by
   obtain⟨S2,s2⟩:=S.lay (o:=.tup [.ref C1,.ref C2,.ref C3,.ref C4]) hq trivial
   exact⟨q,rfl,bM,_,S2,s2,by simp only[ResOk,Rep]⟩⟩
theorem aEv:Ac "ValueError"=some (.type "ValueError"):=by boot_by_name
theorem aEx{t a b c d:BD}(h1:bP K t a=some false)(h2:bP K t b=some false)(h3:bP K t c=some false)(h4:bP K t d=some false):gB K t [a,b,c,d]=some false:=by rw[gB.eq_def];simp only[h1];rw[gB.eq_def];simp only[h2];rw[gB.eq_def];simp only[h3];rw[gB.eq_def];simp only[h4];rw[gB.eq_def]
def jF(L:List SK)(row:List Nat):Prop:=∀t∈row,t<L.length
theorem aGu{G K:Prop}(h:K->G)(k:K):G:=h k
section
variable {prog:AF}{w:AM}{κ:Type}[DecidableEq κ](knd:KeyKind prog w κ)
def Row2(h:BH)(ks:List (List κ))(vs:List BD):Prop:=ks.length=vs.length/\∀ (n:Nat) (k:List κ),ks[n]? =some k->∃b,vs[n]? =some (.ref b)/\(AN knd).is h k b
def IsT2(h:BH)(ks:List (List κ))(a:BF):Prop:=∃ (o:BI) (vs:Array BD) (c:Nat),h.get? a=some o/\o.cls=.type "tuple"/\o.data=.seq vs c/\Row2 knd h ks vs.toList
variable {knd}
theorem Row2.inj{h:BH}{x y:List (List κ)}{vs:List BD}(p:Row2 knd h x vs)(q:Row2 knd h y vs):x=y:=by
 refine mC (p.1.trans q.1.symm) λn n1 n2=> ?_
 obtain⟨b,e1,t1⟩:=p.2 n _<|dW n1;obtain⟨c,e2,t2⟩:=q.2 n _<|dW n2;rw[e1] at e2;cases e2;exact(AN knd).inj t1 t2
theorem IsT2.ty{s:BE}{ks:List (List κ)}{a:BF}:IsT2 knd s.heap ks a->s.TypeIs (.ref a) "tuple"
 |⟨o,_,_,g,c,_⟩=>⟨o,g,c⟩
theorem IsT2.one{h:BH}{a:BF}{x y:List (List κ)}(p:IsT2 knd h x a)(q:IsT2 knd h y a):x=y:=by obtain⟨o,vs,c,g,_,d,r⟩:=p;obtain⟨o2,vs2,c2,g2,_,d2,r2⟩:=q;cases g.symm.trans g2;cases d.symm.trans d2;exact r.inj r2
theorem IsT2.stay{h h':BH}{ks:List (List κ)}{a d:BF}{o:BI}{es ep}(p:IsT2 knd h ks a)(g:h.get? d=some o)(e:o.data=.dict es ep)(sb:Heap.SameBut d h h'):IsT2 knd h' ks a:=by
 obtain⟨o2,vs,c,g2,t,e2,r⟩:=p
 have ne:a≠d:=λz=>by subst z;cases g.symm.trans g2;cases e.symm.trans e2
 exact⟨o2,vs,c,(sb.2 a ne).trans g2,t,e2,r.1,λn k hk=>let ⟨b,q1,q2⟩:=r.2 n k hk;⟨b,q1,(AN knd).keeps q2 g e sb⟩⟩
theorem Row2.step{h:BH}{ks:List (List κ)}{vs:List BD}{v:BD}(p:Row2 knd h ks (v::vs)):∃k ks' b,ks=k::ks'/\v=.ref b/\(AN knd).is h k b/\Row2 knd h ks' vs:=by
 cases ks with
 |nil=>cases p.1
 |cons k ks'=>obtain⟨b,q1,q2⟩:=p.2 0 k rfl;cases q1;exact⟨k,ks',b,rfl,rfl,q2,aFQ.inj p.1,λn k' hk=>p.2 (n+1) k' hk⟩
theorem Row2.none{h:BH}{ks:List (List κ)}(p:Row2 knd h ks []):ks=[]:=cD p.1
noncomputable def aGs(knd:KeyKind prog w κ)(ks:List (List κ)):Int:=reduceHash (Builtin.Tuple.tupleHashOf<|ks.map (AN knd).hash)
noncomputable def lI:List (List κ)->Nat
 |[]=>0
 |k::ks=>k.length+1+lI ks
variable {A:BG}{E:BD->BE->Prop}{s:BE}
theorem aCp{ks:List (List κ)}{a:BF}{Q:Int->BE->Prop}(hu:A.units+1<AQ)(p:IsT2 knd s.heap ks a)(q:Q (aGs knd ks) {s with toks:=s.toks+(lI ks+1)}):AK (AH prog w) A (PySem.pyHash<|.ref a) Q E s:=by
 have ty:=p.ty;obtain⟨o,vs,c,g,_,e,r⟩:=p;unfold PySem.pyHash pyHashByItsType;refine AA<|wpAny_cRoomFor_or (.inr<|aId hu) (AA<|BB ty F.slot_tuple_hash.lookup ?_);refine BC (λz=>absurd z<|by rw[beq_builtin_none];exact aZ) λ_=> ?_
 refine AA<|BB ty F.slot_tuple_hash.lookup (AA<|wpAny_callSpecialIfBoundUnlessNone?_slot ty F.slot_tuple_hash (Ak F.slot_tuple_hash ty F.entry_tuple_hash ?_<|F.args_tuple_hash_1 _));refine AA (m:=Builtin.Tuple.tupleItemsOf<|.ref a) (wpAny_tupleItemsOf g e<|AA ?_);rw[<-qD];refine BA _ (λrest (acc:Array Int) st=>∃todo,Row2 knd s.heap todo rest/\acc.toList++todo.map (AN knd).hash=ks.map (AN knd).hash/\st={s with toks:=st.toks}/\st.toks+lI todo=s.toks+lI ks) _ (λv rest acc st h=> ?_) (λacc st h=> ?_) _ _ ⟨ks,r,rfl,rfl,rfl⟩
 ·obtain⟨todo,r1,e1,e2,e3⟩:=h;obtain⟨k,ks',b,rfl,rfl,t,r2⟩:=r1.step;rw[e2];refine AA ((AN knd).pyHash (k:=k) (show _<AQ from ?_) t ?_)
  ·exact hu
  ·have nx:∃todo,Row2 knd s.heap todo rest/\(acc.push<|(AN knd).hash k).toList++todo.map (AN knd).hash=ks.map (AN knd).hash/\({s with toks:=st.toks+(k.length+1)}:BE)={s with toks:=st.toks+(k.length+1)}/\st.toks+(k.length+1)+lI todo=s.toks+lI ks:=⟨ks',r2,by rw[<-e1];simp,rfl,by rw[<-e3];show _=_+(_+_);omega⟩
   first|exact AB nx|exact AA (AB<|AB nx)
 ·obtain⟨todo,r1,e1,e2,e3⟩:=h;cases r1.none;rw[dJ,bZ] at e1;rw[e2]
  have tk:st.toks+1=s.toks+(lI ks+1):=by have:st.toks+0=s.toks+lI ks:=e3;omega
  show AK _ _ (retInt<|Builtin.Tuple.tupleHashOf acc.toList) _ _ _;rw[e1];unfold aGs reduceHash at q;rw[<-tk] at q;refine wpAny_ret_mkInt ?_;refine BC (λz=>AB ?_) λz=>AA (At<|AB ?_)
  ·rw[if_pos z] at q;exact q
  ·rw[if_neg z] at q;exact q
theorem aHi{x y:List (List κ)}{a b:BF}{R:Fin->BE->Prop}(hu:A.units<AQ)(p:IsT2 knd s.heap x a)(q:IsT2 knd s.heap y b)(h:R (.done (.ret<|.bool (decide<|x=y))) s):AK (AH prog w) A (Builtin.«tuple.__eq__» ⟨[.ref a,.ref b],[]⟩) R E s:=by
 have ty:=q.ty;obtain⟨oa,us,_,ga,_,ea,ra⟩:=p;obtain⟨ob,vs,_,gb,_,eb,rb⟩:=q;refine AA (m:=isInstance (.ref b)<|.type "tuple")<|wpAny_isInstance ty isSubtype_tuple_tuple ?_;rw[if_neg<|by decide];refine AA (wpAny_tupleItemsOf ga ea<|AA (wpAny_tupleItemsOf gb eb<|AA ?_));have lu:us.size=x.length:=by rw[ra.1,bS]
 have lv:vs.size=y.length:=by rw[rb.1,bS]
 refine BA _ (λrest acc st=>acc.1=none/\st=s/\∃xs ys us' vs',rest=us'.zip vs'/\Row2 knd s.heap xs us'/\Row2 knd s.heap ys vs'/\(x=y↔xs=ys)/\(x.length=y.length↔xs.length=ys.length)) _ (λv rest acc st i=> ?_) (λacc st i=> ?_) _ _ ⟨rfl,rfl,x,y,us.toList,vs.toList,rfl,ra,rb,Iff.rfl,Iff.rfl⟩
 ·obtain⟨_,rfl,xs,ys,us',vs',z,r1,r2,i1,i2⟩:=i;cases us' with
  |nil=>simp at z
  |cons u us'=>
   cases vs' with
   |nil=>simp at z
   |cons v' vs'=>
    obtain⟨k,xs',c,rfl,rfl,t1,r1⟩:=r1.step;obtain⟨j,ys',c',rfl,rfl,t2,r2⟩:=r2.step;rw[dA] at z;cases z;refine AA<|(AN knd).eqBool (x:=k) (y:=j) hu t1 t2 ?_
    by_cases e:k=j
    ·rw[decide_eq_true e,if_neg<|by decide];exact AB ⟨rfl,rfl,xs',ys',us',vs',rfl,r1,r2,i1.trans ⟨λz=>(sK.inj z).2,λz=>by rw[e,z]⟩,i2.trans ⟨aFQ.inj,congrArg _⟩⟩
    ·rw[decide_eq_false e,if_pos<|by decide];rw[decide_eq_false λz=>e (sK.inj<|i1.mp z).1] at h;exact AA<|AB (AB<|AB h)
 ·obtain⟨n0,rfl,xs,ys,us',vs',z,r1,r2,i1,i2⟩:=i;obtain⟨a1,a2⟩:=acc;cases n0
  have fin:(us.size==vs.size)=decide (x=y):=by
   rw[lu,lv]
   by_cases e:x.length=y.length
   ·have l2:=i2.mp e
    have:xs=ys:=by
     cases us' with
     |nil=>cases r1.none;exact(cD l2.symm).symm
     |cons u us'=>
      cases vs' with
      |nil=>cases r2.none;exact cD l2
      |cons v vs'=>cases z
    rw[decide_eq_true<|i1.mpr this,e];exact beq_self_eq_true _
   ·rw[decide_eq_false λz=>e<|congrArg _ z];exact beq_eq_false_iff_ne.mpr e
  rw[<-fin] at h;exact AB h
theorem aEa{x y:List (List κ)}{a b:BF}{Q:Bool->BE->Prop}(hu:A.units+1<AQ)(p:IsT2 knd s.heap x a)(q:IsT2 knd s.heap y b)(h:Q (decide<|x=y) s):AK (AH prog w) A (PySem.eqBool (.ref a)<|.ref b) Q E s:=by
 unfold PySem.eqBool
 try with_reducible refine Ag ?_
 refine BC (λz=> ?_) λ_=>AA (wpAny_richCompare_same_room (op:= .Eq) p.ty q.ty F.slot_tuple_eq (Ak F.slot_tuple_eq p.ty F.entry_tuple_eq (aHi (show _<AQ from hu) p q ⟨_,rfl,(λe=>nomatch e),An h⟩)<|F.args_tuple_eq_2 _ _)<|aId hu)
 cases eq_of_beq z;cases p.one q;rw[decide_eq_true rfl] at h;exact AA (At<|AB h)
theorem aAK(m:Nat){k:List κ}{a:BF}{Q:Bool->BE->Prop}(p:(AN knd).is s.heap k a)(h:Q true s):AK (AH prog w) A (eqIsQuiet (m+1)<|.ref a) Q E s:=by
 have ty:=IsTupleKey.typeIs p;obtain⟨o,vs,c,g,_,e,r⟩:=p;have bv:=r.byValue;unfold eqIsQuiet;refine AA<|BB ty F.slot_tuple_eq.lookup (AA (m:=isInstance (.ref a)<|.type "tuple")<|wpAny_isInstance ty isSubtype_tuple_tuple ?_);rw[if_neg<|by decide];refine AA (wpAny_seqItems g e<|AA (m:=forIn vs _ _) ?_);rw[<-qD];refine BA _ (λrest acc st=>acc.1=none/\st=s/\∀v∈rest,carriedByValue v=true) _ (λv rest acc st i=> ?_) (λacc st i=> ?_) _ _ ⟨rfl,rfl,bv⟩
 ·obtain⟨_,rfl,i⟩:=i;rw[eqIsQuiet_byValue _<|i v aE];refine AA<|AB ?_;rw[if_neg<|by decide];exact AB ⟨rfl,rfl,λu hu=>i u<|aC _ hu⟩
 ·obtain⟨n0,rfl,_⟩:=i;obtain⟨a1,a2⟩:=acc;cases n0;exact AB h
theorem aAG{ks:List (List κ)}{a:BF}{Q:Bool->BE->Prop}(p:IsT2 knd s.heap ks a)(h:Q true s):AK (AH prog w) A (eqIsQuiet 8<|.ref a) Q E s:=by
 have ty:=p.ty;obtain⟨o,vs,c,g,_,e,r⟩:=p;unfold eqIsQuiet;refine AA<|BB ty F.slot_tuple_eq.lookup (AA (m:=isInstance (.ref a)<|.type "tuple")<|wpAny_isInstance ty isSubtype_tuple_tuple ?_);rw[if_neg<|by decide];refine AA (wpAny_seqItems g e<|AA (m:=forIn vs _ _) ?_);rw[<-qD];refine BA _ (λrest acc st=>acc.1=none/\st=s/\∃todo,Row2 knd s.heap todo rest) _ (λv rest acc st i=> ?_) (λacc st i=> ?_) _ _ ⟨rfl,rfl,ks,r⟩
 ·obtain⟨_,rfl,todo,i⟩:=i;obtain⟨k,ks',b,rfl,rfl,t,r2⟩:=i.step;refine AA<|aAK 6 t ?_;rw[if_neg<|by decide];exact AB ⟨rfl,rfl,ks',r2⟩
 ·obtain⟨n0,rfl,_⟩:=i;obtain⟨a1,a2⟩:=acc;cases n0;exact AB h
end
noncomputable def aLx{prog:AF}{w:AM}{κ:Type}[DecidableEq κ](knd:KeyKind prog w κ):HeapKind prog w (List<|List κ) where
 is:=IsT2 knd
 hash:=aGs knd
 draws:=λks=>lI ks+1
 room:=λA=>A.units+1<AQ
 inj:=λp q=>p.one q
 keeps:=λp g e sb=>p.stay g e sb
 pyHash:=λhu p q=>aCp hu p q
 eqBool:=λhu p q h=>aEa hu p q h
 quiet:=λp h=>aAG p h
structure HK(P:AF)(w:AM)(κ:Type)[DecidableEq κ] where
 kind:HeapKind P w κ
 rel:Hp->κ->BF->Prop
 mono:∀ {F F':Hp}{k:κ}{a:BF},Same F F'->rel F k a->rel F' k a
 ok:∀ {H:Hp}{h:BH}{k:κ}{a:BF},HOk P w H h->rel H k a->kind.is h k a
 room:∀ {A:BG},A.units+2<AQ->kind.room A.in1
 dat:κ->D
 key:∀ {K:aA}{F:Hp}{k:κ}{v:V},Rep K F (dat k) v->∃a,v=.ref a/\rel F k a
 back:∀ {K:aA}{F:Hp}{k:κ}{a:BF},rel F k a->Rep K F (dat k) (.ref a)
theorem pH{K:aA}{F:Hp}:∀k:List Key,RepL K F (k.map kD) (k.map kV)
 |[]=>.nil
 |a::k=>by refine .cons ?_ (pH k);cases a<;>simp only[kD,kV,Rep]
noncomputable def tD(k:List Key):D:=.tup<|k.map kD
noncomputable def hkT(P:AF)(w:AM):HK P w (List Key) where
 kind:=AN<|dG P w
 rel:=λF k a=>F a=some (.tup<|k.map kV)
 mono:=λs h=>s _ _ h
 ok:=λok h=>lH ok h
 room:=λhu=>Al<|by omega
 dat:=tD
 key:=λr=>by simp only[tD,Rep] at r;obtain⟨a,ys,rfl,ha,rl⟩:=r;rw[mS rl] at ha;exact⟨a,rfl,ha⟩
 back:=λ{K F k a} h=>by simp only[tD,Rep];exact⟨a,_,rfl,h,pH k⟩
inductive R2k(F:Hp):List (List Key)->List V->Prop
 |nil:R2k F [] []
 |cons {k:List Key}{b:BF}{ks:List (List Key)}{vs:List V}:F b=some (.tup<|k.map kV)->R2k F ks vs->R2k F (k::ks) (.ref b::vs)
theorem R2k.mono(s:Same F F'){ks:List (List Key)}{vs:List V}(r:R2k F ks vs):R2k F' ks vs:=by
 induction r with
 |nil=>exact .nil
 |cons h _ ih=>exact .cons (s _ _ h) ih
theorem Row2.cons{P:AF}{w:AM}{κ:Type}[DecidableEq κ]{knd:KeyKind P w κ}{h:BH}{k:List κ}{b:BF}{ks:List (List κ)}{vs:List BD}(t:(AN knd).is h k b)(r:Row2 knd h ks vs):Row2 knd h (k::ks) (.ref b::vs):=
 ⟨congrArg (·+1) r.1,fun n k' e=>by
  cases n with
  |zero=>cases e;exact⟨b,rfl,t⟩
  |succ n=>exact r.2 n k' e⟩
theorem R2k.ok{P:AF}{w:AM}{H:Hp}{h:BH}(ok:HOk P w H h){ks:List (List Key)}{vs:List V}(r:R2k H ks vs):∀ {us:List BD},Vals vs us->Row2 (dG P w) h ks us:=by
 induction r with
 |nil=>intro us q;cases q;exact⟨rfl,λn k e=>by simp at e⟩
 |cons hb _ ih=>
  intro us q;cases q with
  |cons r1 rv=>cases(show _=Value.ref _ from r1);exact Row2.cons (lH ok hb)<|ih rv
theorem R2k.of{K:aA}{F:Hp}:∀ {ks:List (List Key)}{vs:List V},RepL K F (ks.map tD) vs->R2k F ks vs
 |[],vs,r=>by simp only[dJ,RepL] at r;subst r;exact .nil
 |k::ks,vs,r=>by rw[aV] at r;obtain⟨y,ys,rfl,q,rl⟩:=r.uncons;simp only[tD,Rep] at q;obtain⟨a,zs,rfl,ha,rl2⟩:=q;rw[mS rl2] at ha;exact .cons ha<|R2k.of rl
theorem R2k.rep{ks:List (List Key)}{vs:List V}(r:R2k F ks vs):RepL K F (ks.map tD) vs:=by
 induction r with
 |nil=>exact .nil
 |@cons k b ks vs h _ ih=>refine .cons ?_ ih;simp only[tD,Rep];exact⟨b,_,rfl,h,pH k⟩
noncomputable def hkN(P:AF)(w:AM):HK P w (List<|List Key) where
 kind:=aLx<|dG P w
 rel:=λF ks a=>∃vs,F a=some (.tup vs)/\R2k F ks vs
 mono:=λs ⟨vs,h,r⟩=>⟨vs,s _ _ h,r.mono s⟩
 ok:=λ{H h k a} ok ⟨vs,e,r⟩=>by obtain⟨_,its,rv,o,h1,h2,⟨n,h3⟩,_⟩:=(show ObjOk P w H h a (.tup vs) from ok a _ e);exact⟨o,its.toArray,n,h1,h2,h3,by simpa using r.ok ok rv⟩
 room:=λ{A} hu=>by show A.in1.units+1<AQ;exact hu
 dat:=λks=>.tup<|ks.map tD
 key:=λr=>by simp only[Rep] at r;obtain⟨a,ys,rfl,ha,rl⟩:=r;exact⟨a,rfl,ys,ha,R2k.of rl⟩
 back:=λ{K F k a} ⟨vs,h,r⟩=>by simp only[Rep];exact⟨a,vs,rfl,h,r.rep⟩
section
variable {P:AF}{w:AM}{κ:Type}[DecidableEq κ](hk:HK P w κ)
abbrev KG(F:Hp):List (κ×V)->List (κ×BF×BD)->Prop:=Paired λp q=>p.1=q.1/\hk.rel F p.1 q.2.1/\RelV p.2 q.2.2
def TG(K:aA)(F:Hp)(l:BF)(o:BI)(ks:List κ)(ds:List D):Prop:=
 ks.length=ds.length/\ks.length<=AL/\(l==AU)=false/\ks.Nodup/\∃ (vs:List V) (xs:List (κ×BF×BD)) (es:Array DictEntry) (ep:Nat),RepL K F ds vs/\KG hk F (ks.zip vs) xs/\o.ExactDict/\o.data=.dict es ep/\es.toList=xs.map (entryOfKey hk.kind)/\(xs.map (·.1)).Nodup
variable {hk}{K:aA}{F F' H:Hp}{l:BF}{o:BI}{ks:List κ}{ds:List D}
theorem KG.mono{kvs:List (κ×V)}{xs:List (κ×BF×BD)}(s:Same F F')(r:KG hk F kvs xs):KG hk F' kvs xs:=Paired.mapP r λ_ _ z=>⟨z.1,hk.mono s z.2.1,z.2.2⟩
theorem TG.mono(s:Same F F')(t:TG hk K F l o ks ds):TG hk K F' l o ks ds:=by obtain⟨h1,h2,h3,h4,vs,xs,es,ep,r,g,q⟩:=t;exact⟨h1,h2,h3,h4,vs,xs,es,ep,r.mono s,g.mono s,q⟩
theorem KG.all{h:BH}(ok:HOk P w H h){l:List (κ×V)}{m:List (κ×BF×BD)}(q:KG hk H l m):∀x∈m,hk.kind.is h x.1 x.2.1:=by
 induction q with
 |nil=>intro x hx;exact nomatch hx
 |@cons p q ps qs hq t ih=>
  intro x hx
  rcases aR.mp hx with e|hx
  ·subst e;exact hk.ok ok (by rw[<-hq.1];exact hq.2.1)
  ·exact ih x hx
theorem KG.val{kvs:List (κ×V)}{xs:List (κ×BF×BD)}(r:KG hk F kvs xs)(k:κ):RelO (eK kvs k) ((atKey xs k).map (·.2)):=by
 induction r with
 |nil=>exact True.intro
 |@cons p q ps qs h t ih=>
  obtain⟨h1,_,h2⟩:=h
  by_cases e:p.1=k
  ·have e':q.1=k:=h1.symm.trans e;have b:atKey (q::qs) k=some q.2:=by simp[atKey,fS,e']
   rw[fO e,b];exact h2
  ·have e':¬ q.1=k:=λz=>e (h1.trans z)
   have b:atKey (q::qs) k=atKey qs k:=by simp[atKey,fS,e']
   rw[eM e,b];exact ih
theorem KG.new{kvs:List (κ×V)}{xs:List (κ×BF×BD)}(r:KG hk F kvs xs){k:κ}(hn:eK kvs k=none){b:BF}{y:V}{u:BD}(hb:hk.rel F k b)(ry:RelV y u):KG hk F (kvs++[(k,y)]) (storedH xs k b u):=by
 have e:atKey xs k=none:=by
  have:=r.val k;rw[hn] at this;cases h:atKey xs k with
  |none=>rfl
  |some z=>rw[h] at this;cases this
 rw[storedH_new e];exact Paired.snoc r ⟨rfl,hb,ry⟩
theorem kU{k:κ}:∀ {ks:List κ}{xs:List V},k∉ks->eK (ks.zip xs) k=none
 |[],_,_=>rfl
 |_::_,[],_=>rfl
 |j::js,x::xs,h=>by rw[dA,eM (p:=(j,x)) (k:=k) (λe=>h<|(show j=k from e)▸aE)];exact kU λz=>h<|aC _ z
theorem sA:∀ {ks:List κ}{xs:List V}{n:Nat}{k:κ}{x:V},ks.Nodup->ks[n]? =some k->xs[n]? =some x->eK (ks.zip xs) k=some x
 |[],_,n,_,_,_,h,_=>by simp at h
 |_::_,[],n,_,_,_,_,h=>by simp at h
 |j::js,y::ys,0,k,x,nd,h1,h2=>by
  have e1:j=k:=by simpa using h1
  have e2:y=x:=by simpa using h2
  rw[dA,fO e1,e2]
 |j::js,y::ys,n+1,k,x,nd,h1,h2=>by
  obtain⟨nj,nd⟩:=bA.mp nd;have h1:js[n]? =some k:=by simpa using h1
  have h2:ys[n]? =some x:=by simpa using h2
  rw[dA,eM (p:=(j,y)) (k:=k) (λe=>nj<|(show j=k from e)▸aN h1)];exact sA nd h1 h2
theorem qT{k:κ}{ks:List κ}{xs:List V}(nd:ks.Nodup)(hl:ks.length=xs.length)(h:k∈ks):(eK (ks.zip xs) k).isSome=true:=by obtain⟨n,hn,rfl⟩:=fE h;rw[sA (n:=n) (x:=xs[n]'(by omega)) nd (by simp[hn])<|by simp[show n<xs.length by omega]];rfl
theorem TG.dict{h:BH}(ok:HOk P w H h)(s:Same F H)(hl:H l=some (exO l o))(t:TG hk K F l o ks ds):∃ (vs:List V) (xs:List (κ×BF×BD)),RepL K F ds vs/\KG hk F (ks.zip vs) xs/\h.DictOfH hk.kind l xs/\xs.length<=AL/\(∀k,(atKey xs k).isSome=decide (k∈ks)):=by
 obtain⟨h1,h2,h3,h4,vs,xs,es,ep,r,g,q1,q2,q3,q4⟩:=t;have ho:h.get? l=some o:=(ok l _ hl).1;refine⟨vs,xs,r,g,⟨o,es,ep,ho,q1,q2,q3,KG.all ok<|g.mono s,q4⟩, ?_,λk=> ?_⟩
 ·rw[<-Paired.length g,iP,r.len,<-h1,mW];exact h2
 ·have:=(g.val k).isSome_eq;rw[aDu] at this;rw[<-this]
  by_cases e:k∈ks
  ·rw[decide_eq_true e];exact qT h4 (by rw[r.len,h1]) e
  ·rw[decide_eq_false e,kU e];rfl
end
section
variable {P:AF}{w:AM}{κ:Type}[DecidableEq κ]
def GG(hk:HK P w κ)(K:aA)(l:BF)(ks:List κ)(ds:List D):V->Hp->Hp->Prop:=λv F H=>v=.ref l/\∃o,H l=some (exO l o)/\TG hk K F l o ks ds
noncomputable def oG(hk:HK P w κ)(K:aA)(l:BF)(ks:List κ)(ds:List D):Slot:=.ox [l]<|GG hk K l ks ds
noncomputable def gD(hk:HK P w κ)(K:aA)(ks:List κ)(ds:List D):D:=.any λv F=>∃l o,v=.ref l/\F l=some (exO l o)/\TG hk K F l o ks ds
variable {hk:HK P w κ}{K:aA}{H₀ F H:Hp}{σ:St}{sd:List Slot}{i:Nat}{l:BF}{ks:List κ}{ds:List D}{o:BI}
theorem TG.cell(t:TG hk K F l o ks ds):∀v,o.data≠ .cell v:=λv z=>by obtain⟨_,_,_,_,_,_,_,_,_,_,_,q,_⟩:=t;rw[q] at z;cases z
theorem uG(S:StF K H₀ F H σ sd)(hs:sd[i]? =some (oG hk K l ks ds)):σ[i]? =some (some<|.ref l)/\F l=none/\∃o,H l=some (exO l o)/\TG hk K F l o ks ds:=by
 obtain⟨o,h1,v,h2,h3,h4⟩:=S.slots.get hs;obtain⟨e,ob,a,b⟩:=h4 F H (Same.refl _) λ_ _ _ q=>q
 subst e h2;exact⟨h1,(h3 l<|bI l).1,ob,a,b⟩
theorem aIR(hF:F l=none)(h1:H l=some (exO l o))(t:TG hk K F l o ks ds):fY K F H (oG hk K l ks ds) (some<|.ref l):=
 ⟨.ref l,rfl,fun a ha=>by
  rw[aD.mp ha]
  exact⟨hF,_,h1,o,rfl,t.cell⟩,λF' H' s k=>⟨rfl,o,k l (bI l) _ h1,t.mono s⟩⟩
theorem gD_rep{v:V}:Rep K F (gD hk K ks ds) v↔∃l o,v=.ref l/\F l=some (exO l o)/\TG hk K F l o ks ds:=by
 simp only[gD,Rep]
 constructor
 ·exact λh=>h.2 F<|Same.refl _
 ·rintro⟨l,o,rfl,e,t⟩;exact⟨⟨l,rfl⟩,λF' s=>⟨l,o,rfl,s _ _ e,t.mono s⟩⟩
end
section
variable {X:Cx}{sd:List Slot}{e a b c tg iter:Expr}{es:List Expr}{pos:Pos}{d:D}{ds:List D}{κ:Type}[DecidableEq κ]{hk:HK X.prog X.w κ}{ks:List κ}{k:κ}{E:gY}{l:BF}
theorem uJ(hk:HK X.prog X.w κ)(i:Nat){x:Str}{p p2:Pos}(hN:X.N.Nodup)(hi:X.N[i]? =some x)(hx:Loc X.env.scope x)(hE:∀l,E.nx (sd.set i<|oG hk X.K l [] []))(hs:AV (.Dict [] [] p2) (some<|.Name x p) pos.line X.env=pure false:=by rfl)
  (hf:X.fn x=true\/X.env.scope.names.lookup x=some .local:=by first|exact .inl rfl|exact .inr rfl|assumption):PSd1 X sd (.Assign [.Name x p] (.Dict [] [] p2) pos) E:=.mk λσ F H S=>
 (mK hN hi hx zK hs hf).to λq hq hm=>by
  have fp:F q=none:=S.sub.free hq
  have no:q∉bV sd:=λhl=>by obtain⟨_,ob,h,_⟩:=S.slots.owns hl;rw[hq] at h;cases h
  have S1:StF X.K X.B₀ F (upd H q<|exO q aDw) σ sd:=by
   refine⟨S.base,λb u e=> ?_,kZ S.smp q,S.slots.mono (Same.refl _) λl hl=> ?_,S.nd⟩
   ·rw[bD<|bX e fp];exact S.sub _ _ e
   ·obtain⟨n,ys,y,_⟩:=S.slots.owns hl;have hne:l≠q:=bX y hq;exact⟨n,λys e=>by rw[bD hne];exact e⟩
  refine⟨_,F,S1.setT i (aIR (hk:=hk) (K:=X.K) (ks:=[]) (ds:=[]) fp bM ⟨rfl,bJ _,hm,cH,[],[], #[],0,.nil,.nil,⟨rfl,rfl,rfl⟩,rfl,rfl,cH⟩) (by simp) λa ha=> ?_,Same.refl _,hE q⟩;rw[aD.mp ha];exact no
theorem tH(i:Nat){x:Str}{p p2:Pos}(hu:X.A.units+2<AQ)(hs:sd[i]? =some (oG hk X.K l ks ds))(hx:PE X (.Name x p) (iX i))(h:PEd X sd e (.val d))(hb:PEd X sd b (.val<|hk.dat k))(hnk:k∉ks)(hl:ds.length<=10000)(hE:E.nx (sd.set i (oG hk X.K l (ks++[k])<|ds++[d])))
  (hsw:AV e (some<|.Subscript (.Name x p) b p2) pos.line X.env=pure false:=by rfl):PSd1 X sd (.Assign [.Subscript (.Name x p) b p2] e pos) E:=.mk λσ F H S pins s I=>by
 refine wpAny_Assign_Subscript (thn (h σ F H S pins s I) λr s1 ⟨v,H1,I1,rv,F1,S1,sF1,q1⟩=> ?_) hsw;obtain⟨h1,_⟩:=uG S1 hs;refine thn (hx pins s1 σ H1 (λv H2=>v=.ref l/\H2=H1) I1 ⟨.ref l,h1,rfl,rfl⟩) λu s2 ⟨y,H2,I2,ry,e1,e2⟩=> ?_
 subst e1 e2;obtain rfl:u=Value.ref l:=ry;refine thn (hb σ F1 H2 S1 pins s2 I2) λiv s3 ⟨y,H3,I3,ry,F3,S3,sF3,q3⟩=> ?_
 obtain⟨g1,g2,o,g3,t⟩:=uG S3 hs;obtain⟨ad,rfl,ha⟩:=hk.key q3;obtain rfl:iv=Value.ref ad:=ry;obtain⟨vs,xs,r1,kg,dd,hz,hin⟩:=t.dict I3.hok S3.sub g3;obtain⟨t1,t2,t3,t4,_⟩:=t;refine wpAny_setItem_heap (hsz:=hz) (hk.room hu) (hk.ok I3.hok<|hk.mono S3.sub ha) dd λh' dd' hsm=> ?_
 obtain⟨q,es',ep',hq,u2,u3,u4,_,u5⟩:=dd';have I4:=lO (t':=s3.toks+hk.kind.draws k) I3 (ob:=exO l q) (by rw[g3];exact True.intro) hsm ⟨q,hq⟩<|tY hq;have lz:ks.length=vs.length:=by rw[t1,r1.len]
 have kg':=kg.new (kU hnk) ha rv;rw[<-qS lz] at kg'
 have t':TG hk X.K F3 l q (ks++[k]) (ds++[d]):=⟨by rw [aM,aM,t1]; rfl,by
  rw[aM,t1];have:=eV hl;show ds.length+1<=AL
  omega,t3,aY.mpr ⟨t4,by simp,λa ha b hb e=>hnk (by rw[<-aD.mp hb,<-e];exact ha)⟩,vs++[v],_,es',ep',r1.app (.one (Rep.mono sF3 q1)),kg',u2,u3,u4,u5⟩
 refine⟨σ,_,I4,_,F3,S3.reT (z':=oG hk X.K l (ks++[k])<|ds++[d]) hs g1 (λb ob hb q=> ?_) (kZ S3.smp l) (aIR g2 bM t') (show[l].Nodup by simp) λa ha=>.inl ha,sF1.trans sF3,hE⟩;rw[bD (show b≠l from λz=>hb<|z▸bI l)];exact q
theorem aEB(i:Nat){sts:List BJ}(hs:sd[i]? =some (oG hk X.K l ks ds))(h:PSd X (sd.set i (.val<|gD hk X.K ks ds)) sts E):PSd X sd sts E:=.mk λσ F H S=>by
 obtain⟨h1,h2,o,h3,t⟩:=uG S hs;have S0:=S.le<|fN sd i;have no:l∉bV (sd.set i .un):=λhb=>gF S.nd hs (show l∈[l] from bI l) hb
 obtain⟨S1,s1⟩:=S0.inN (l:=l) (ls:=[]) (λa ha=>by rw[aD.mp ha];exact h2) λa ha=>by rw[aD.mp ha];exact no
 have f1:(inF F H [l]) l=some (exO l o):=by rw[aBd aE];exact h3
 have S2:=S1.set (d:=gD hk X.K ks ds) (v:=.ref l) i<|gD_rep.mpr ⟨l,o,rfl,f1,t.mono s1⟩;rw[gS,jH h1] at S2;exact aBq s1<|h σ _ H S2
structure PDc(X:Cx)(sd:List Slot)(e:Expr){κ:Type}[DecidableEq κ](hk:HK X.prog X.w κ)(ks:List κ)(ds:List D):Prop where
 get:∀ (σ:St) (F H:Hp),StF X.K X.B₀ F H σ sd->wE X e σ H λv H1=>∃F1 l,StF X.K X.B₀ F1 H1 σ sd/\Same F F1/\v=.ref l/\∀F2 H2,StF X.K X.B₀ F2 H2 σ sd->Same F1 F2->∃o,H2 l=some (exO l o)/\TG hk X.K F2 l o ks ds
theorem yK(i:Nat){x:Str}{p:Pos}(hs:sd[i]? =some (oG hk X.K l ks ds))(hx:PE X (.Name x p) (iX i)):PDc X sd (.Name x p) hk ks ds:=⟨fun σ F H S=>hx.to (by
 obtain⟨h1,_⟩:=uG S hs
 exact⟨.ref l,h1,F,l,S,Same.refl _,rfl,λF2 H2 S2 _=>(uG S2 hs).2.2⟩)⟩
theorem aHH(h:PEd X sd e (.val (gD hk X.K ks ds))):PDc X sd e hk ks ds:=⟨fun σ F H S=>(h σ F H S).imp fun v H1 ⟨F1,S1,s1,q1⟩=>by
 obtain⟨l,o,rfl,e,t⟩:=gD_rep.mp q1
 exact⟨F1,l,S1,s1,rfl,λF2 H2 S2 s2=>⟨o,S2.sub _ _ (s2 _ _ e),t.mono s2⟩⟩⟩
noncomputable def rIn(hk:HK X.prog X.w κ)(f:Bool->Bool):R2:=λx y H Q=>∃ (F:Hp) (ad l:BF) (o:BI) (k:κ) (ks:List κ) (ds:List D),x=.ref ad/\y=.ref l/\Same F H/\hk.rel F k ad/\H l=some (exO l o)/\TG hk X.K F l o ks ds/\X.A.units+2<AQ/\Q (.bl<|f (decide<|k∈ks)) H
theorem aHF:OpR X (Ad .NotIn) (rIn hk (!·)):=by intro pins s σ H x y v u Q I rx ry h;obtain⟨F,ad,l,o,k,ks,ds,rfl,rfl,sF,ha,hl,t,hu,q⟩:=h;obtain rfl:v=Value.ref ad:=rx;obtain rfl:u=Value.ref l:=ry;obtain⟨vs,xs,_,_,dd,_,hin⟩:=t.dict I.hok sF hl;refine wpAny_notIn_heap (hk.room hu) (hk.ok I.hok<|hk.mono sF ha) t.2.2.1 dd ⟨.bl<|!decide (k∈ks),H,I.tok _, ?_,q⟩;show Value.bool _=Value.bool _;rw[hin]
theorem aDC(hu:X.A.units+2<AQ)(ha:PEd X sd a (.val<|hk.dat k))(hb:PDc X sd b hk ks ds)(hm:Ab .NotIn b=false:=by with_unfolding_all rfl):PTd X sd (.Compare a [.NotIn] [b] pos) (!decide (k∈ks)):=.mk λσ F H S=>
 (xN (aHF (hk:=hk)) fG fG hm).to ((ha σ F H S).imp fun v H1 ⟨F1,S1,s1,q1⟩=>(hb.get σ F1 H1 S1).imp fun u H2 ⟨F2,l,S2,s2,eu,g⟩=>by
  obtain⟨ad,rfl,hr⟩:=hk.key q1;obtain⟨o,g1,g2⟩:=g F2 H2 S2<|Same.refl _
  exact⟨F2,ad,l,o,k,ks,ds,rfl,eu,S2.sub,hk.mono s2 hr,g1,g2,hu,_,rfl,rfl,F2,S2,s1.trans s2⟩)
theorem aGB{n:Nat}(hu:X.A.units+2<AQ)(ha:PDc X sd a hk ks ds)(hb:PEd X sd b (.val<|hk.dat k))(hkn:ks[n]? =some k)(hd:ds[n]? =some d)(hsl:aLM b):PEd X sd (.Subscript a b pos) (.val d):=.mk λσ F H S pins s I=>by
 refine aHz PySem.F.slot_dict_getitem.lookup hsl<|thn (ha.get σ F H S pins s I) λu s1 ⟨y,H1,I1,ry,F1,l,S1,s1',ey,g⟩=> ?_;subst ey;obtain rfl:u=Value.ref l:=ry;refine thn (hb σ F1 H1 S1 pins s1 I1) λiv s2 ⟨y,H2,I2,ry,F2,S2,sF,q2⟩=> ?_
 obtain⟨o,g1,t⟩:=g F2 H2 S2 sF;obtain⟨ad,rfl,hr⟩:=hk.key q2;obtain rfl:iv=Value.ref ad:=ry;obtain⟨vs,xs,rl,kg,dd,_,_⟩:=t.dict I2.hok S2.sub g1;obtain⟨v,hv,rv⟩:=rl.get hd;obtain⟨w',hw,rw'⟩:=RelO.some_of (v:=v) (o:=(atKey xs k).map (·.2)) (by rw[<-sA t.2.2.2.1 hkn hv];exact kg.val k);obtain⟨pr,hp,hp2⟩:=eD.mp hw;refine⟨dd.typeIs,wpAny_getItem_heap (hk.room hu) (hk.ok I2.hok<|hk.mono S2.sub hr) dd hp ?_⟩;rw[hp2];exact⟨v,H2,I2.tok _,rw',F2,S2,s1'.trans sF,rv⟩
end
variable {prog:AF}{E:BD->BE->Prop}{d it:BF}{od:BI}{es:Array DictEntry}{ep:Nat}
theorem qA(g:s.heap.get? d=some od)(c:od.ExactDict):s.TypeIs (.ref d) "dict":=⟨od,g,c.1⟩
theorem aDQ{Q:BD->BE->Prop}(sm:(d==AU)=false)(g:s.heap.get? d=some od)(c:od.ExactDict)(e:od.data=.dict es ep)
  (q:Q (.ref s.heap.objs.size) {s with heap:=s.heap.push {cls:=.type "dict_keyiterator",data:=.fields #[.ref d,.int 0 0,.int es.size 0,.int ep 0]}}):AK (AH prog w) A (pyIter<|.ref d) Q E s:=by
 have ty:=qA g c;refine wpAny_pyIter_slot ty F.slot_dict_iter (Ak F.slot_dict_iter ty F.entry_dict_iter (AA ?_)<|F.args_dict_iter_1 _);unfold Builtin.Dict.dictSlotNone;refine AA<|Ax ty (AB (a:=Value.ref d)<|AA (m:=Builtin.Dict.showsAll d) ?_);unfold Builtin.Dict.showsAll;rw[sm,if_neg aZ];exact AB<|AA (Aj g e<|AA (wpAny_dictEpoch g e<|AA (AT<|AB ⟨_,rfl,"dict_keyiterator",_,⟨_,bO _ rfl,rfl⟩,F.slot_dict_keyiterator_next.lookup,q⟩)))
theorem aCo{Q:Option BD->BE->Prop}(ki:s.heap.IsKeyIter it d i es.size ep)(g:s.heap.get? d=some od)(e:od.data=.dict es ep)(hi:i<es.size)
  (q:∀h',h'.IsKeyIter it d (i+1) es.size ep->Heap.SameBut it s.heap h'->Q (some es[i].key) {s with heap:=h'}):AK (AH prog w) A (pyNext<|.ref it) Q E s:=by
 have ty:=ki.typeIs;obtain⟨o,g1,c1,f1⟩:=ki;unfold pyNext;refine AA (wpAny_attempt<|Ar (name:=Str.ofString "__next__") ty F.slot_dict_keyiterator_next (Ak F.slot_dict_keyiterator_next ty F.entry_dict_keyiterator_next (AA<|AB (AA<|AA ?_))<|F.args_dict_keyiterator_next_1 _));refine AA (Ai ty<|AB (AA<|wpAny_fieldsOf g1 f1 ?_));rw[if_neg<|by decide];show AK _ _ (ite ((Value.ref d==Value.none)=true) _ _) _ _ _;rw[if_neg (c:=(Value.ref d==Value.none)=true) λz=>by cases z];refine AA<|AB (AA<|Aj g e ?_);rw[if_neg<|by simp];refine AA<|AB (AA<|wpAny_dictEpoch g e ?_);rw[if_neg<|by simp];refine AB ?_;have ix:(if(i:Int)<0 then none else es[(i:Int).toNat]?)=some es[i]:=by rw[if_neg<|by omega,dM,Array.getElem?_eq_getElem hi]
 simp only[ix]
 have up:(s.heap.update it (Obj.mapFields (·.setIfInBounds 1 (rawInt<|(i:Int)+1)))).IsKeyIter it d (i+1) es.size ep:=
  ⟨_,fM _ g1 (Obj.isFreed_of_fields<|Obj.data_mapFields f1 _),(Obj.cls_mapFields ..).trans c1,by rw[Obj.data_mapFields f1];simp[rawInt]⟩
 refine AA<|AA (Ai ty<|AB (AA<|wpAny_isOneOf_keyiter ty (AA<|wpAny_setField g1 f1 (show(0:Nat)+1<4 by decide) (AA<|Ag ?_))));refine AA<|wpAny_isOneOf_keyiter up.typeIs ?_;exact AB<|AB ⟨_,rfl,AB (q _ up<|Heap.SameBut.update ..)⟩
theorem aEp{Q:Option BD->BE->Prop}{hp:BH}(hh:A.handled=none)(sb:Heap.ExtBut it s.heap hp)(q:∀h',Heap.ExtBut it s.heap h'->Q none {s with heap:=h'}):
  AK (AH prog w) A.in1 (newExc (.type "StopIteration") []>>=fun x=>(raiseNew x:Sem Fin)) (fun fin s'=>∃v,fin=Fin.done (Flow.ret v)∧AK (AH prog w) A (pure (some v)) Q E s') (fun e s'=>AK (AH prog w) A (do
   let b <-isInstance e (Value.type "StopIteration")
   if b=true then pure none else throw e) Q E s') {s with heap:=hp}:=by
 refine AA ?_;simp only[newExc,newTuple];refine AA (AT (AA (m:=firstArgMember _ _)<|wpAny_of_eq (a:=Value.none) (by first|rfl|(simp only[firstArgMember];rfl)) (AT ?_<|by size_fits))<|by size_fits);simp only[raiseNew];refine AA<|wpAny_handled ?_;rw[show A.in1.handled=none from hh];refine AA (AB<|wpAny_throw ?_);refine AA<|wpAny_isInstance (T:="StopIteration") (b:=true) ⟨_,bO _ rfl,rfl⟩ isSubtype_stop ?_;exact AB (q _<|(sb.push _).push _)
theorem aEn{Q:Option BD->BE->Prop}(hh:A.handled=none)(ki:s.heap.IsKeyIter it d i es.size ep)(g:s.heap.get? d=some od)(e:od.data=.dict es ep)(hi:es.size<=i)
  (q:∀h',Heap.ExtBut it s.heap h'->Q none {s with heap:=h'}):AK (AH prog w) A (pyNext<|.ref it) Q E s:=by
 have ty:=ki.typeIs;obtain⟨o,g1,c1,f1⟩:=ki;unfold pyNext;refine AA (wpAny_attempt<|Ar (name:=Str.ofString "__next__") ty F.slot_dict_keyiterator_next (Ak F.slot_dict_keyiterator_next ty F.entry_dict_keyiterator_next (AA<|AB (AA<|AA ?_))<|F.args_dict_keyiterator_next_1 _));refine AA (Ai ty<|AB (AA<|wpAny_fieldsOf g1 f1 ?_));rw[if_neg<|by decide];show AK _ _ (ite ((Value.ref d==Value.none)=true) _ _) _ _ _;rw[if_neg (c:=(Value.ref d==Value.none)=true) λz=>by cases z];refine AA<|AB (AA<|Aj g e ?_);rw[if_neg<|by simp];refine AA<|AB (AA<|wpAny_dictEpoch g e ?_);rw[if_neg<|by simp];refine AB ?_;have ix:(if(i:Int)<0 then none else es[(i:Int).toNat]?)=none:=by rw[if_neg<|by omega,dM,aAm hi]
 simp only[ix];refine AA<|AA (Ai ty<|AB (AA<|wpAny_setField g1 f1 (show(0:Nat)<4 by decide) ?_));exact aEp hh (Heap.SameBut.update ..).extBut q
section
variable {P:AF}{w:AM}{κ:Type}[DecidableEq κ]{hk:HK P w κ}{K:aA}{F:Hp}{l:BF}{o:BI}{ks:List κ}{ds:List D}
theorem Paired.at{α β:Type}{R:α->β->Prop}{as:List α}{bs:List β}(p:Paired R as bs):∀ {n:Nat}{a:α},as[n]? =some a->∃b,bs[n]? =some b/\R a b:=by
 induction p with
 |nil=>intro n a h;simp at h
 |@cons x y xs ys r t ih=>
  intro n a h;cases n with
  |zero=>
   have:x=a:=by simpa using h
   subst this;exact⟨y,rfl,r⟩
  |succ n=>obtain⟨b,h1,h2⟩:=ih (by simpa using h);exact⟨b,by simpa using h1,h2⟩
theorem TG.ents(t:TG hk K F l o ks ds):∃ (es:Array DictEntry) (ep:Nat) (vs:List V),o.ExactDict/\o.data=.dict es ep/\es.size=ks.length/\RepL K F ds vs/\∀ (n:Nat) (k:κ),ks[n]? =some k->∃b v u,vs[n]? =some v/\es[n]? =some u/\u.key=.ref b/\RelV v u.val/\hk.rel F k b:=by
 obtain⟨h1,h2,h3,h4,vs,xs,es,ep,r,g,q1,q2,q3,q4⟩:=t;have zl:(ks.zip vs).length=ks.length:=by rw[iP,r.len,<-h1,mW]
 refine⟨es,ep,vs,q1,q2, ?_,r,λn k hn=> ?_⟩
 ·have:=congrArg nZ q3;rw[bS,aB,<-Paired.length g,zl] at this;exact this
 ·have nl:n<ks.length:=(aF.mp hn).1;have nv:n<vs.length:=by rw[r.len,<-h1];exact nl
  have hz:(ks.zip vs)[n]? =some (k,vs[n]):=kR.mpr ⟨hn,by simp[nv]⟩;obtain⟨b,hb,e1,e2,e3⟩:=Paired.at g hz;refine⟨b.2.1,vs[n],entryOfKey hk.kind b,by simp[nv], ?_,rfl,e3,e2⟩;rw[<-cS,q3,bB,hb];rfl
end
theorem aAF(sm:(d==AU)=false):MeetsIn prog w (Builtin.«dict.__len__» ⟨[.ref d],[]⟩) (λ_ R s=>∃ (od:BI) (es:Array DictEntry) (ep:Nat),s.heap.get? d=some od/\od.ExactDict/\od.data=.dict es ep/\R (.ok (.ret<|.int es.size s.toks)) {s with toks:=s.toks+1}):=
 .of_wp λA R s ⟨od,es,ep,g,c,e,q⟩=>by refine AA (m:=Builtin.Dict.dictSlotNone "__len__" ⟨[.ref d],[]⟩) ?_;unfold Builtin.Dict.dictSlotNone;refine AA<|Ax (qA g c) (AB (a:=Value.ref d)<|AA (AB<|AA (m:=dictSize d) ?_));unfold dictSize;exact AA (Aj g e<|AB (AA<|wpAny_pendingCount_other sm (wpAny_ret_mkInt<|by rw[show((es.size:Nat):Int)+((0:Nat):Int)=(es.size:Int) from Int.add_zero _];exact q)))
theorem aDf{Q:BD->BE->Prop}(sm:(d==AU)=false)(g:s.heap.get? d=some od)(c:od.ExactDict)(e:od.data=.dict es ep)(fit:es.size<=AL)(q:∀t t2,Q (.int es.size t) {s with toks:=t2}):AK (AH prog w) A (call (.builtin "len") [.ref d]) Q E s:=by
 have lim:AL=16777216:=Ap;have ty:=qA g c;refine Calls.call_function_entry kind_len plain_len entry_len (args_len1 _) ?_;refine AA (m:=oneArg "len" _) (AB<|AA (m:=callSpecial? (.ref d)<|Str.ofString "__len__") (Ar (name:=Str.ofString "__len__") ty F.slot_dict_len<|call_meetsIn F.slot_dict_len ty F.entry_dict_len (F.args_dict_len_1 _) (aAF sm) ⟨od,es,ep,g,c,e, ?_⟩));refine AA (Ag<|AB (AA<|wpAny_letGo ?_));refine BC (λz=>by omega) λ_=>BC (λz=>by omega) λ_=> ?_
 exact AA (wpAny_mkInt<|AB ⟨_,rfl,q _ _⟩)
section
variable {X:Cx}{sd:List Slot}{e:Expr}{pos:Pos}{d:D}{ds:List D}{κ:Type}[DecidableEq κ]{hk:HK X.prog X.w κ}{ks:List κ}
theorem vN:kI X (.builtin "len") (λxs H Q=>∃ (l:BF) (o:BI) (es:Array DictEntry) (ep:Nat),xs=[.ref l]/\H l=some (exO l o)/\o.ExactDict/\o.data=.dict es ep/\(l==AU)=false/\es.size<=AL/\Q (.int es.size) H):=by intro pins s σ H xs us Q I r h;obtain⟨l,o,es,ep,rfl,hl,c,e,sm,fit,q⟩:=h;obtain⟨u,rfl,rx⟩:=rD r;cases(show u=Value.ref l from rx);exact aDf sm (I.hok l _ hl).1 c e fit λt t2=>⟨.int es.size,H,I.tok _,⟨_,rfl⟩,q⟩
theorem aHe{p:Pos}(hg:Gl X "len")(hm:X.mg "len"=none)(ha:PDc X sd e hk ks ds)(hst:AC [e] X.env=(false,eval e X.env)::AC [] X.env:=by rfl):PEd X sd (.Call (.Name "len" p) [e] [] pos) (.val<|.int ks.length):=.mk λσ F H S=>
 (jG vN hg hm PySem.boot_len (dE fG pa_nil hst) (by decide) (by decide) hst rfl).to ((ha.get σ F H S).imp fun v H1 ⟨F1,l,S1,s1,ev,g⟩=>by
  obtain⟨o,g1,t⟩:=g F1 H1 S1<|Same.refl _;obtain⟨es,ep,vs,c,e,ez,_⟩:=t.ents;refine⟨l,o,es,ep,by rw[ev],g1,c,e,t.2.2.1,by rw[ez];exact t.2.1,F1,S1,s1, ?_⟩;simp only[ResOk,Rep]
  rw[ez])
end
theorem tO{κ:Type}[DecidableEq κ]:∀ {ks:List κ}{xs:List V}{k:κ}{z:V},eK (ks.zip xs) k=some z->∃n:Nat,ks[n]? =some k/\xs[n]? =some z
 |[],_,_,_,h=>by cases h
 |_::_,[],_,_,h=>by cases h
 |j::js,y::ys,k,z,h=>by
  rw[dA] at h
  by_cases e:j=k
  ·rw[fO (p:=(j,y)) e] at h;cases h;exact⟨0,by simp[e],rfl⟩
  ·rw[eM (p:=(j,y)) e] at h;obtain⟨n,h1,h2⟩:=tO h;exact⟨n+1,by simpa using h1,by simpa using h2⟩
structure LyOk(K:aA)(F H:Hp)(p:Int)(L:Int->List D)(kvs:List (Key×V))(ls:List BF):Prop where
 live:∃ (lk:List Int) (dss:List (List D)),lk.Nodup/\lk.length=ls.length/\InD K F H ls dss/\(∀k,p<k->eK kvs (.inl k)=eK (lk.zip<|ls.map V.ref) k)/\(∀ (n:Nat) (k:Int),lk[n]? =some k->p<k/\dss[n]? =some (L k))/\∀k,p<k->k∉lk->L k=[]
 cur:(eK kvs (.inl p)=none/\L p=[])\/∃v,eK kvs (.inl p)=some v/\Rep K F (.lst<|L p) v
def GLy(K:aA)(l:BF)(p:Int)(L:Int->List D)(kvs:List (Key×V))(ls:List BF):V->Hp->Hp->Prop:=λv F H=>v=.ref l/\H l=some (.dK kvs)/\LyOk K F H p L kvs ls
noncomputable def oLy(K:aA)(l:BF)(p:Int)(L:Int->List D)(kvs:List (Key×V))(ls:List BF):Slot:=.ox (l::ls)<|GLy K l p L kvs ls
variable {p:Int}{L:Int->List D}{kvs:List (Key×V)}
theorem LyOk.mono(o:LyOk K F H p L kvs ls)(s:Same F F')(k:∀a∈ls,∀ob,H a=some ob->H' a=some ob):LyOk K F' H' p L kvs ls:=by
 obtain⟨⟨lk,dss,h1,h2,h3,h4,h5,h6⟩,h7⟩:=o;refine⟨⟨lk,dss,h1,h2,h3.mono2 s k,h4,h5,h6⟩, ?_⟩
 rcases h7 with h|⟨v,q1,q2⟩
 ·exact .inl h
 ·exact .inr ⟨v,q1,q2.mono s⟩
theorem kG(S:StF K H₀ F H σ sd)(hs:sd[i]? =some (oLy K l p L kvs ls)):σ[i]? =some (some<|.ref l)/\(∀a∈l::ls,F a=none)/\(H l=some (.dK kvs)/\LyOk K F H p L kvs ls)/\(l::ls).Nodup:=by
 obtain⟨o,h1,v,h2,h3,h4⟩:=S.slots.get hs;obtain⟨e,g⟩:=h4 F H (Same.refl _) λ_ _ _ q=>q
 subst e h2;exact⟨h1,λa ha=>(h3 a ha).1,g,sN S.nd hs⟩
theorem qL(hF:∀a∈l::ls,F a=none)(h1:H l=some (.dK kvs))(o:LyOk K F H p L kvs ls):fY K F H (oLy K l p L kvs ls) (some<|.ref l):=by
 refine⟨.ref l,rfl,λa ha=>⟨hF a ha, ?_⟩,λF' H' s k=>⟨rfl,k l aE _ h1,o.mono s λa ha ob e=>k a (aC _ ha) ob e⟩⟩
 rcases aR.mp ha with rfl|ha
 ·exact⟨_,h1,trivial⟩
 ·obtain⟨⟨lk,dss,_,_,h3,_⟩,_⟩:=o;obtain⟨t,ht⟩:=cZ ha;obtain⟨_,xs,_,q,_⟩:=h3.get ht;exact⟨_,q,trivial⟩
theorem InD.erase:∀ {as:List BF}{dss:List (List D)} (n:Nat),InD K F H as dss->InD K F H (as.eraseIdx n) (dss.eraseIdx n)
 |[],[],n,h=>by simp;exact h
 |[],_::_,_,h=>h.elim
 |_::_,[],_,h=>h.elim
 |a::as,ds::dss,0,h=>h.2
 |a::as,ds::dss,n+1,h=>⟨h.1,InD.erase n h.2⟩
theorem vI:∀ {lk:List Int}{vs:List V}{n:Nat}{q k:Int},lk[n]? =some q->k≠q->eK ((lk.eraseIdx n).zip<|vs.eraseIdx n) k=eK (lk.zip vs) k
 |[],_,n,_,_,h,_=>by simp at h
 |j::js,[],n,q,k,h,ne=>by cases n<;>simp[List.eraseIdx]
 |j::js,y::ys,0,q,k,h,ne=>by
  have:j=q:=by simpa using h
  subst this;rw[dA,eM (p:=(j,y)) λe=>ne e.symm];rfl
 |j::js,y::ys,n+1,q,k,h,ne=>by
  have ih:=vI (vs:=ys) (show js[n]? =some q by simpa using h) ne;show eK ((j,y)::(js.eraseIdx n).zip (ys.eraseIdx n)) k=eK ((j,y)::js.zip ys) k
  by_cases e:j=k
  ·rw[fO (p:=(j,y)) e,fO (p:=(j,y)) e]
  ·rw[eM (p:=(j,y)) e,eM (p:=(j,y)) e,ih]
theorem qV{α β:Type}(f:α->β):∀ (l:List α) (n:Nat),(l.map f).eraseIdx n=(l.eraseIdx n).map f
 |[],_=>by simp
 |_::_,0=>rfl
 |a::l,n+1=>by show f a::(l.map f).eraseIdx n=f a::(l.eraseIdx n).map f;rw[qV f l n]
variable {d:D}{E:gY}
theorem aDc(p:Int)(i:Nat){p1 p2:Pos}(hN:X.N.Nodup)(hi:X.N[i]? =some x)(hx:Loc X.env.scope x)(hE:∀l,E.nx (sd.set i<|oLy X.K l p (λ_=>[]) [] []))(hs:AV (.Dict [] [] p2) (some<|.Name x p1) pos.line X.env=pure false:=by rfl)
  (hf:X.fn x=true\/X.env.scope.names.lookup x=some .local:=by first|exact .inl rfl|exact .inr rfl|assumption):PSd1 X sd (.Assign [.Name x p1] (.Dict [] [] p2) pos) E:=.mk λσ F H S=>
 (mK hN hi hx aEH hs hf).to λq hq=>by
  have fp:F q=none:=S.sub.free hq
  have no:q∉bV sd:=λhl=>by obtain⟨_,ob,h,_⟩:=S.slots.owns hl;rw[hq] at h;cases h
  have S1:StF X.K X.B₀ F (upd H q<|.dK []) σ sd:=by
   refine⟨S.base,λb u e=> ?_,oS S.smp q trivial,S.slots.mono (Same.refl _) λl hl=> ?_,S.nd⟩
   ·rw[bD<|bX e fp];exact S.sub _ _ e
   ·obtain⟨n,ys,y,_⟩:=S.slots.owns hl;have hne:l≠q:=bX y hq;exact⟨n,λys e=>by rw[bD hne];exact e⟩
  refine⟨_,F,S1.setT i (qL (K:=X.K) (ls:=[]) (kvs:=[]) (λa ha=>by rw[aD.mp ha];exact fp) bM ⟨⟨[],[],cH,rfl,trivial,λ_ _=>rfl,λn k e=>by simp at e,λ_ _ _=>rfl⟩,.inl ⟨rfl,rfl⟩⟩) (by simp) λa ha=> ?_,Same.refl _,hE q⟩;rw[aD.mp ha];exact no
theorem aHQ(i:Nat){sts:List BJ}(hs:sd[i]? =some (oLy X.K l p L kvs ls))(h:∀ls',PSd X (sd.set i<|oLy X.K l (p+1) L kvs ls') sts E):PSd X sd sts E:=.mk λσ F H S=>by
 obtain⟨h1,h2,⟨g1,⟨lk,dss,o1,o2,o3,o4,o5,o6⟩,_⟩,nd⟩:=kG S hs
 by_cases q:p+1∈lk
 ·obtain⟨n,hn⟩:=cZ q;have nl:n<ls.length:=by rw[<-o2];exact(aF.mp hn).1
  have ha:ls[n]? =some ls[n]:=by simp[nl]
  generalize ls[n]=a at ha;have am:=aN ha;obtain⟨ds,xs,d1,d2,d3⟩:=o3.get ha;rw[(o5 n _ hn).2] at d1;cases d1;have S0:=S.le<|fN sd i;have no:∀b∈l::ls,b∉bV (sd.set i .un):=λb hb z=>gF S.nd hs hb z
  obtain⟨S1,s1⟩:=S0.inN (l:=a) (ls:=[]) (λb hb=>by rw[aD.mp hb];exact h2 a<|aC _ am) λb hb=>by rw[aD.mp hb];exact no a<|aC _ am
  have fa:(inF F H [a]) a=some (.lst xs):=by rw[aBd aE];exact d2
  obtain⟨nd1,nd2⟩:=bA.mp nd
  have ne:∀b∈ls.eraseIdx n,b≠a:=λb hb z=>by obtain⟨m,mn,hm⟩:=sL.mp hb;subst z;obtain⟨m1,e1⟩:=aF.mp hm;obtain⟨n1,e2⟩:=aF.mp ha;exact mn ((fI nd2).mp<|e1.trans e2.symm)
  have sub:∀b∈l::ls.eraseIdx n,b∈l::ls:=λb hb=>(aR.mp hb).elim (λz=>z▸aE) λz=>aC _<|(eG ls n).subset z
  have ok:LyOk X.K (inF F H [a]) H (p+1) L kvs (ls.eraseIdx n):=by
   refine⟨⟨lk.eraseIdx n,dss.eraseIdx n,o1.sublist<|eG _ _, ?_,(o3.erase n).mono2 s1 λ_ _ _ e=>e,λk hk=> ?_,λm k hm=> ?_,λk hk hm=> ?_⟩,.inr ⟨.ref a, ?_, ?_⟩⟩
   ·rw[jN,jN,o2]
   ·rw[o4 k<|by omega,<-qV,vI hn<|by omega]
   ·have mk:∃j,j≠n/\lk[j]? =some k/\(dss.eraseIdx n)[m]? =dss[j]? :=by
     rw[List.getElem?_eraseIdx] at hm ⊢
     by_cases z:m<n
     ·rw[if_pos z] at hm ⊢;exact⟨m,by omega,hm,rfl⟩
     ·rw[if_neg z] at hm ⊢;exact⟨m+1,by omega,hm,rfl⟩
    obtain⟨j,jn,e1,e2⟩:=mk;obtain⟨e3,e4⟩:=o5 j k e1;refine⟨?_,e2.trans e4⟩
    have:k≠p+1:=λz=>by subst z;obtain⟨j1,f1⟩:=aF.mp e1;obtain⟨n1,f2⟩:=aF.mp hn;exact jn ((fI o1).mp<|f1.trans f2.symm)
    omega
   ·refine o6 k (by omega) λz=>hm ?_
    obtain⟨j,hj⟩:=cZ z;refine sL.mpr ⟨j,λw=> ?_,hj⟩;subst w;rw[hn] at hj;cases hj;omega
   ·rw[o4 (p+1)<|by omega];exact sA o1 hn (by rw[bB,ha];rfl)
   ·simp only[Rep];exact⟨a,xs,rfl,fa,d3.mono s1⟩
  have S2:=S1.setT (v:= .ref l) i (qL (K:=X.K) (fun b hb=>by
   rw[xP λz=> ?_]
   ·exact h2 b<|sub b hb
   ·rcases aR.mp hb with rfl|hb
    ·exact nd1<|(aD.mp z)▸am
    ·exact ne b hb (aD.mp z)) g1 ok) (bA.mpr ⟨λz=>nd1 ((eG ls n).subset z),nd2.sublist (eG _ _)⟩) λb hb=>no b (sub b hb)
  rw[gS,jH h1] at S2;exact aBq s1<|h _ σ _ H S2
 ·have ok:LyOk X.K F H (p+1) L kvs ls:=by
   refine⟨⟨lk,dss,o1,o2,o3,λk hk=>o4 k<|by omega,λn k hn=>⟨?_,(o5 n k hn).2⟩,λk hk=>o6 k<|by omega⟩,.inl ⟨?_,o6 _ (by omega) q⟩⟩
   ·have:=(o5 n k hn).1;have:k≠p+1:=λz=>q (z▸aN hn)
    omega
   ·rw[o4 _<|by omega];exact kU q
  have S2:=S.reT (z':=oLy X.K l (p+1) L kvs ls) hs h1 (λb ob _ q=>q) S.smp (qL h2 g1 ok) nd λa ha=>.inl ha
  exact h _ σ F H S2
theorem aEM(i:Nat){p1 ap cp p5:Pos}(hu:X.A.units+1<AQ)(hs:sd[i]? =some (oLy X.K l p L kvs ls))(hx:PE X (.Name x p1) (iX i))(hb:PEd X sd b (.val<|.int p))(m:M2 X (.Name x p1) "get" ap b (.List [] p5) cp):PEd X sd (.Call (.Attribute (.Name x p1) "get" ap) [b, .List [] p5] [] cp) (.val (.lst<|L p)):=.mk λσ F H S=>
 (aEC hu hx fG fG m).to (by
  obtain⟨h1,_,⟨g1,_⟩,_⟩:=kG S hs;refine⟨.ref l,h1,l,rfl,.inl ⟨kvs,.inl g1⟩,(hb σ F H S).imp λv1 H1 ⟨F1,S1,s1,q1⟩=>((PEd.val (mQ (ds:=[]) aW<|bJ _):PEd X sd (.List [] p5) (.val<|.lst [])) σ F1 H1 S1).imp λv2 H2 ⟨F2,S2,s2,q2⟩=> ?_⟩;obtain⟨_,_,⟨g1,_,cur⟩,_⟩:=kG S2 hs;simp only[ResOk,Rep] at q1;subst q1;refine⟨eK kvs<|.inl p,.k (k:=.inl p) g1,F2,S2,s1.trans s2, ?_⟩
  rcases cur with⟨e1,e2⟩|⟨v,e1,e2⟩
  ·rw[e1,e2];exact q2
  ·rw[e1]
   exact e2)
noncomputable def jX(L:Int->List D)(k:Int)(ds:List D):Int->List D:=λj=>if j=k then ds else L j
theorem sE(L:Int->List D)(k:Int)(ds:List D):jX L k ds k=ds:=if_pos rfl
theorem nK(L:Int->List D){k j:Int}(ds:List D)(h:j≠k):jX L k ds j=L j:=if_neg h
theorem oB{n:Nat}(h:n<=100000):n<AL:=by have:=Ap;omega
variable {a:BF}
theorem LyOk.new{k:Int}(o:LyOk K F H p L kvs ls)(hk:p<k)(hn:eK kvs (.inl k)=none)(ha:H a=some (.lst [])):LyOk K F H p (jX L k []) (kvs++[(.inl k,.ref a)]) (ls++[a]):=by
 obtain⟨⟨lk,dss,o1,o2,o3,o4,o5,o6⟩,cur⟩:=o
 have nk:k∉lk:=λz=>by have:=qT (xs:=ls.map V.ref) o1 (by rw[aB,o2]) z;rw[<-o4 k hk,hn] at this;cases this
 have vs:∀j:Int,eK (kvs++[((.inl k:Key),V.ref a)]) (.inl j)=if j=k then some (.ref a) else eK kvs (.inl j):=λj=>by
  rw[lA _ _ _ kvs hn]
  by_cases e:j=k
  ·rw[if_pos e,if_pos<|congrArg Sum.inl e]
  ·rw[if_neg e,if_neg λz=>e<|Sum.inl.inj z]
 have vz:∀j:Int,eK ((lk++[k]).zip<|(ls++[a]).map V.ref) j=if j=k then some (.ref a) else eK (lk.zip<|ls.map V.ref) j:=λj=>by rw[aU,aIk<|by rw[aB,o2]];exact lA _ _ _ _<|kU nk
 refine⟨⟨lk++[k],dss++[[]],aY.mpr ⟨o1,by simp,λx hx y hy e=>nk<|by rw[<-aD.mp hy,<-e];exact hx⟩,by rw[aM,aM,o2];rfl,InD.snoc o3 ha,λj hj=>by rw[vs,vz,o4 j hj],λn j hj=> ?_,λj hj nj=> ?_⟩, ?_⟩
 ·have dl:dss.length=lk.length:=by rw[<-o3.len,o2]
  by_cases z:n<lk.length
  ·rw[cK z] at hj;obtain⟨e1,e2⟩:=o5 n j hj;refine⟨e1, ?_⟩;rw[cK<|by omega,e2,nK L [] (λw=>nk<|by rw[<-w];exact aN hj)]
  ·rw[cV<|by omega] at hj
   have n0:n-lk.length=0:=by have:=(aF.mp hj).1;simp at this;omega
   rw[n0] at hj;cases hj;refine⟨hk, ?_⟩;rw[cV<|by omega,dl,n0,sE];rfl
 ·by_cases e:j=k
  ·rw[e,sE]
  ·rw[nK L [] e];exact o6 j hj λz=>nj<|aS _ z
 ·have ne:p≠k:=aMh hk;rw[vs,if_neg ne,nK L [] ne];exact cur
theorem LyOk.at{k:Int}{z:V}(o:LyOk K F H p L kvs ls)(hk:p<k)(hz:eK kvs (.inl k)=some z):∃ (n:Nat) (b:BF) (xs:List V),z=.ref b/\ls[n]? =some b/\H b=some (.lst xs)/\RepL K F (L k) xs:=by obtain⟨⟨lk,dss,o1,o2,o3,o4,o5,o6⟩,cur⟩:=o;rw[o4 k hk] at hz;obtain⟨n,e1,e2⟩:=tO hz;rw[bB] at e2;obtain⟨b,e3,rfl⟩:=eD.mp e2;obtain⟨ds,xs,d1,d2,d3⟩:=o3.get e3;rw[(o5 n k e1).2] at d1;cases d1;exact⟨n,b,xs,rfl,e3,d2,d3⟩
theorem LyOk.wr{k:Int}{b:BF}{ys:List V}(o:LyOk K F H p L kvs ls)(nd:ls.Nodup)(hk:p<k)(hz:eK kvs (.inl k)=some (.ref b))(r:RepL K F ds ys):LyOk K F (upd H b<|.lst ys) p (jX L k ds) kvs ls:=by
 obtain⟨⟨lk,dss,o1,o2,o3,o4,o5,o6⟩,cur⟩:=o;have hz':=hz;rw[o4 k hk] at hz';obtain⟨n,e1,e2⟩:=tO hz';rw[bB] at e2;obtain⟨b',e3,e4⟩:=eD.mp e2;cases e4;have nl:n<dss.length:=by rw[<-o3.len];exact(aF.mp e3).1
 refine⟨⟨lk,dss.set n ds,o1,o2,o3.set nd e3 r,o4,λm j hj=> ?_,λj hj nj=> ?_⟩, ?_⟩
 ·obtain⟨f1,f2⟩:=o5 m j hj;refine⟨f1, ?_⟩
  by_cases e:m=n
  ·subst e;rw[e1] at hj;cases hj;rw[fH nl,sE]
  ·have:j≠k:=fun z=>e (by
    subst z;obtain⟨a1,a2⟩:=aF.mp hj;obtain⟨b1,b2⟩:=aF.mp e1
    exact(fI o1).mp (a2.trans b2.symm))
   rw[gZ<|Ne.symm e,f2,nK L ds this]
 ·have:j≠k:=λz=>nj (z▸aN e1)
  rw[nK L ds this];exact o6 j hj nj
 ·rw[nK L ds<|aMh hk];exact cur
variable {a:Expr}
theorem aCm(i:Nat){p1 ap1 cp1 p5 ap cp:Pos}{k:Int}(hs:sd[i]? =some (oLy X.K l p L kvs ls))(hx:PE X (.Name x p1) (iX i))(hb:PEd X sd b (.val<|.int k))(h:∀z,PEd X (sd.set i z) e<|.val d)(hpk:p<k)(hc:kvs.length<=100000)(hl:(L k).length<=100000)
  (hE:∀kvs' ls',kvs'.length<=kvs.length+1->E.nx (sd.set i<|oLy X.K l p (jX L k<|L k++[d]) kvs' ls'))
  (hm:PE X (.Call (.Attribute (.Call (.Attribute (.Name x p1) "setdefault" ap1) [b, .List [] p5] [] cp1) "append" ap) [e] [] cp)
   (tBM X.K "list" nD (tBM X.K "dict" rSI (iX i) (kH (wE X b) (kH (wE X (.List [] p5)) sT))) (kH (wE X e) sT)):=by exact aAT iN kP kQ qI (aAT iM gG rW aJv (pv _) (dE fG (dE fG pa_nil))) (dE fG pa_nil))
  (hsw:AV (.Call (.Attribute (.Call (.Attribute (.Name x p1) "setdefault" ap1) [b, .List [] p5] [] cp1) "append" ap) [e] [] cp) none pos.line X.env=pure false:=by rfl):
  PSd1 X sd (.Expr (.Call (.Attribute (.Call (.Attribute (.Name x p1) "setdefault" ap1) [b, .List [] p5] [] cp1) "append" ap) [e] [] cp) pos) E:=.mk λσ F H S=>
 (nG hm hsw).to (by
  have il:i<sd.length:=(aF.mp hs).1
  have fin:∀ (F2 H2:Hp) (L2:Int->List D) (kvs2:List (Key×V)) (ls2:List BF) (ad:BF),StF X.K X.B₀ F2 H2 σ (sd.set i<|oLy X.K l p L2 kvs2 ls2)->Same F F2->L2 k=L k->jX L2 k (L k++[d])=jX L k (L k++[d])->kvs2.length<=kvs.length+1->eK kvs2 (.inl k)=some (.ref ad)->
    tyV X.K "list" (.ref ad) H2/\(kH (wE X e) sT) σ H2 λxs H3=>nD (.ref ad) xs H3 λ_ H4=>(lft X F E).nx σ H4:=λF2 H2 L2 kvs2 ls2 ad S2 s2 eL eU hl2 hv=>by
   have hs2:(sd.set i<|oLy X.K l p L2 kvs2 ls2)[i]? =some (oLy X.K l p L2 kvs2 ls2):=fH il;obtain⟨_,_,⟨_,o⟩,_⟩:=kG S2 hs2;obtain⟨n,b',xs,ez,hn,hb',rb⟩:=o.at hpk hv;cases ez;refine⟨.inl ⟨rfl,xs,.of hb'⟩,(h _ σ F2 H2 S2).imp λv H3 ⟨F3,S3,s3,q3⟩=> ?_⟩;obtain⟨f1,f2,⟨f3,o'⟩,f5⟩:=kG S3 hs2;obtain⟨n',b2,xs3,ez,hn',u2,u3⟩:=o'.at hpk hv;cases ez;obtain⟨nd1,nd2⟩:=bA.mp f5;have am:=aN hn';have nl:l≠ad:=λz=>nd1<|z▸am
   have o2:=o'.wr nd2 hpk hv (u3.app<|.one q3)
   have W:StF X.K X.B₀ F3 (upd H3 ad (.lst (xs3++[v]))) σ ((sd.set i (oLy X.K l p L2 kvs2 ls2)).set i (oLy X.K l p (jX L2 k (L2 k++[d])) kvs2 ls2)):=S3.reT (z':=oLy X.K l p (jX L2 k (L2 k++[d])) kvs2 ls2) hs2 f1 (fun b ob hb q=>by
    rw[bD (show b≠ad from λz=>hb<|z▸aC _ am)]
    exact q) (oS S3.smp ad trivial) (qL f2 (by rw[bD nl];exact f3) o2) f5 λa ha=>.inl ha
   rw[gS,eL,eU] at W;exact⟨ad,xs3,v,rfl,rfl,u2,by rw[u3.len,eL];exact oB hl,_,F3,W,s2.trans s3,hE kvs2 ls2 hl2⟩
  obtain⟨h1,h2,⟨h3,_⟩,_⟩:=kG S hs;refine⟨.ref l,h1,.inr (.inr<|.inl ⟨rfl,.inl ⟨_,h3⟩⟩),(hb σ F H S).imp λv1 H1 ⟨F1,S1,s1,q1⟩=>((mQ (ds:=[]) aW (bJ _):PEd X sd (.List [] p5) (.own [])) σ F1 H1 S1).imp λv2 H2 ⟨F2,S2,s2,q2⟩=> ?_⟩;obtain⟨g1,g2,⟨g3,o⟩,g5⟩:=kG S2 hs;simp only[ResOk,Rep] at q1;subst q1;obtain⟨a,xs,rfl,fa,ha2,rl2,na⟩:=q2;have xn:xs=[]:=cD (by rw[rl2.len];rfl);subst xn;refine⟨l,.inl k,.ref a,kvs,rfl,rfl,g3,oB hc,λz hz=> ?_,λhz=> ?_⟩
  ·obtain⟨n,b',xs,ez,_⟩:=o.at hpk hz;subst ez;have S2':StF X.K X.B₀ F2 H2 σ (sd.set i<|oLy X.K l p L kvs ls):=by rw[vL hs];exact S2
   exact fin F2 H2 L kvs ls b' S2' (s1.trans s2) rfl rfl (hX _) hz
  ·have hne:a∉l::ls:=λz=>na (cW.mpr ⟨_,aN hs,z⟩)
   have hal:a≠l:=λz=>hne<|z▸aE
   have e0:L k=[]:=by
    obtain⟨⟨lk,dss,o1,o2,o3,o4,o5,o6⟩,_⟩:=o;refine o6 k hpk λz=> ?_
    have:=qT (xs:=ls.map V.ref) o1 (by rw[aB,o2]) z;rw[<-o4 k hpk,hz] at this;cases this
   have S3:StF X.K X.B₀ F2 (upd H2 l (.dK<|kvs++[((Sum.inl k:Key),V.ref a)])) σ (sd.set i (oLy X.K l p (jX L k []) (kvs++[((Sum.inl k:Key),V.ref a)])<|ls++[a])):=by
    refine S2.reT (z':=oLy X.K l p (jX L k []) (kvs++[((Sum.inl k:Key),V.ref a)])<|ls++[a]) hs g1 (λb ob hb q=> ?_) (oS (o:=.dK<|kvs++[((Sum.inl k:Key),V.ref a)]) S2.smp l trivial) (qL (λb hb=> ?_) bM ?_) ?_ λb hb=> ?_
    ·rw[bD (show b≠l from λz=>hb<|z▸aE)];exact q
    ·rcases aR.mp hb with rfl|hb
     ·exact g2 _ aE
     ·rcases aK.mp hb with hb|hb
      ·exact g2 b<|aC _ hb
      ·rw[aD.mp hb];exact fa
    ·refine LyOk.new (o.mono (Same.refl _) λb hb ob q=> ?_) hpk hz ?_
     ·rw[bD (show b≠l from λz=>(bA.mp g5).1<|z▸hb)];exact q
     ·rw[bD hal];exact ha2
    ·show(l::(ls++[a])).Nodup;refine bA.mpr ⟨λz=> ?_,aY.mpr ⟨(bA.mp g5).2,by simp,λx hx y hy e=> ?_⟩⟩
     ·rcases aK.mp z with z|z
      ·exact(bA.mp g5).1 z
      ·exact hal (aD.mp z).symm
     ·rw[aD.mp hy] at e;exact hne (aC _<|e▸hx)
    ·rcases aR.mp hb with rfl|hb
     ·exact .inl aE
     ·rcases aK.mp hb with hb|hb
      ·exact .inl<|aC _ hb
      ·rw[aD.mp hb];exact .inr na
   refine fin F2 _ (jX L k []) _ _ a S3 (s1.trans s2) (by rw[sE,e0]) (funext λj=> ?_) (by rw[aM];exact aO _) (by rw[lA _ _ _ kvs hz,if_pos rfl]);unfold jX
   by_cases z:j=k
   ·rw[if_pos z,if_pos z]
   ·rw[if_neg z,if_neg z,if_neg z])
theorem aCW(i:Nat){p1 p2 p3:Pos}{j:Nat}{k:Int}(hs:sd[i]? =some (oLy X.K l p L kvs ls))(h:PEd X sd e (.own ds))(hpk:p<k)(hn:eK kvs (.inl k)=none)(hc:kvs.length<=100000)(hE:∀a ls',E.nx (sd.set i<|oLy X.K l p (jX L k ds) (kvs++[(.inl k,.ref a)]) ls'))
  (hm:PS X (.Assign [.Subscript (.Name x p1) (.Constant (.int k) j p3) p2] e pos) (aIA (iX i) (tC<|.int k)<|wE X e)):PSd1 X sd (.Assign [.Subscript (.Name x p1) (.Constant (.int k) j p3) p2] e pos) E:=.mk λσ F H S=>
 hm.to ((h σ F H S).imp fun v H1 ⟨F1,S1,s1,q1⟩=>by
  obtain⟨g1,g2,⟨g3,o⟩,g5⟩:=kG S1 hs;obtain⟨a,xs,rfl,fa,ha2,rl2,na⟩:=q1;have hne:a∉l::ls:=λz=>na<|cW.mpr ⟨_,aN hs,z⟩
  have hal:a≠l:=λz=>hne<|z▸aE
  refine⟨.ref l,g1,l,_,rfl,DPut.k (k:=.inl k) g3<|oB hc, ?_⟩;rw[mO _ hn]
  have o1:LyOk X.K F1 (upd (upd H1 a<|.lst []) l (.dK<|kvs++[((Sum.inl k:Key),V.ref a)])) p (jX L k []) (kvs++[((Sum.inl k:Key),V.ref a)]) (ls++[a]):=by
   refine LyOk.new (o.mono (Same.refl _) λb hb ob q=> ?_) hpk hn ?_
   ·rw[bD (show b≠l from λz=>(bA.mp g5).1<|z▸hb),bD (show b≠a from λz=>hne<|z▸aC _ hb)];exact q
   ·rw[bD hal,bM]
  have nd:(l::(ls++[a])).Nodup:=by
   refine bA.mpr ⟨λz=> ?_,aY.mpr ⟨(bA.mp g5).2,by simp,λx hx y hy e=> ?_⟩⟩
   ·rcases aK.mp z with z|z
    ·exact(bA.mp g5).1 z
    ·exact hal (aD.mp z).symm
   ·rw[aD.mp hy] at e;exact hne (aC _<|e▸hx)
  have o2:=o1.wr (bA.mp nd).2 hpk (by rw[lA _ _ _ kvs hn,if_pos rfl]) rl2
  have eH:upd (upd (upd H1 a<|.lst []) l (.dK<|kvs++[((Sum.inl k:Key),V.ref a)])) a (.lst xs)=upd H1 l (.dK<|kvs++[((Sum.inl k:Key),V.ref a)]):=funext λb=>by
   by_cases z:b=a
   ·rw[z,bM,bD hal,ha2]
   ·rw[bD z]
    by_cases z2:b=l
    ·rw[z2,bM,bM]
    ·rw[bD z2,bD z,bD z2]
  have eL:jX (jX L k []) k ds=jX L k ds:=funext λj=>by
   unfold jX
   by_cases z:j=k
   ·rw[if_pos z,if_pos z]
   ·rw[if_neg z,if_neg z,if_neg z]
  rw[eH,eL] at o2;refine⟨_,F1,S1.reT (z':=oLy X.K l p (jX L k ds) (kvs++[((Sum.inl k:Key),V.ref a)])<|ls++[a]) hs g1 (λb ob hb q=> ?_) (oS (o:=.dK<|kvs++[((Sum.inl k:Key),V.ref a)]) S1.smp l trivial) (qL (λb hb=> ?_) bM o2) nd λb hb=> ?_,s1,hE a _⟩
  ·rw[bD (show b≠l from λz=>hb<|z▸aE)];exact q
  ·rcases aR.mp hb with rfl|hb
   ·exact g2 _ aE
   ·rcases aK.mp hb with hb|hb
    ·exact g2 b<|aC _ hb
    ·rw[aD.mp hb];exact fa
  ·rcases aR.mp hb with rfl|hb
   ·exact .inl aE
   ·rcases aK.mp hb with hb|hb
    ·exact .inl<|aC _ hb
    ·rw[aD.mp hb]
     exact .inr na)
namespace S45
variable {T:Type}[DecidableEq T](n:Nat)(pr:Nat->Int)(beh:Nat->T->T)(t0:T)
noncomputable abbrev Ent(T:Type):=Int×List Nat×T
noncomputable abbrev Lay(T:Type):=Int->List (List Nat×T)
noncomputable def tabQ(row:List Nat):T:=row.foldl (λt k=>beh k t) t0
noncomputable def prQ(row:List Nat):Int:=(row.map pr).sum
theorem tab_snoc(row:List Nat)(k:Nat):tabQ beh t0 (row++[k])=beh k (tabQ beh t0 row):=by unfold tabQ;rw[gR];rfl
theorem pr_snoc(row:List Nat)(k:Nat):prQ pr (row++[k])=prQ pr row+pr k:=by unfold prQ;rw[aU,List.sum_append];simp
noncomputable def put(t:Int)(row:List Nat)(tab:T):Nat->Lay T->Lay T
 |0,ly=>ly
 |k+1,ly=>λj=>if j=t+pr k then put t row tab k ly j++[(row++[k],beh k tab)] else put t row tab k ly j
noncomputable def one(t:Int)(s:List (Ent T)×Lay T)(e:List Nat×T):List (Ent T)×Lay T:=if e.2∉s.1.map (λx=>x.2.2)/\s.1.length<=500 then(s.1++[(t,e.1,e.2)],put pr beh t e.1 e.2 n s.2) else s
noncomputable def lay0:Lay T:=λj=>if j=0 then[([],t0)] else[]
noncomputable def run:Nat->List (Ent T)×Lay T
 |0=>([],lay0 t0)
 |t+1=>((run t).2 t).foldl (one n pr beh t)<|run t
theorem nA(t:Int)(row:List Nat)(tab:T)(ly:Lay T):∀ (m:Nat) (j:Int) (x:List Nat×T),x∈put pr beh t row tab m ly j↔x∈ly j\/∃k,k<m/\j=t+pr k/\x=(row++[k],beh k tab)
 |0,j,x=>by show x∈ly j↔_;exact⟨.inl,λh=>h.elim id λ⟨k,hk,_⟩=>absurd hk<|Nat.not_lt_zero k⟩
 |m+1,j,x=>by
  have ih:=nA t row tab ly m j x;show x∈(if j=t+pr m then put pr beh t row tab m ly j++[(row++[m],beh m tab)] else put pr beh t row tab m ly j)↔_
  by_cases e:j=t+pr m
  ·rw[if_pos e,aK,ih,aD]
   constructor
   ·rintro((h|⟨k,hk,h⟩)|h)
    ·exact .inl h
    ·exact .inr ⟨k,by omega,h⟩
    ·exact .inr ⟨m,by omega,e,h⟩
   ·rintro(h|⟨k,hk,h1,h2⟩)
    ·exact .inl<|.inl h
    ·by_cases z:k=m
     ·subst z;exact .inr h2
     ·exact .inl<|.inr ⟨k,by omega,h1,h2⟩
  ·rw[if_neg e,ih]
   constructor
   ·rintro(h|⟨k,hk,h⟩)
    ·exact .inl h
    ·exact .inr ⟨k,by omega,h⟩
   ·rintro(h|⟨k,hk,h1,h2⟩)
    ·exact .inl h
    ·by_cases z:k=m
     ·subst z;exact absurd h1 e
     ·exact .inr ⟨k,by omega,h1,h2⟩
structure Ok(t:Int)(rest:List (List Nat×T))(s:List (Ent T)×Lay T):Prop where
 ent:∀e∈s.1,0<=e.1/\e.1<=t/\e.1=prQ pr e.2.1/\(∀k∈e.2.1,k<n)/\e.2.2=tabQ beh t0 e.2.1
 nd:(s.1.map λx=>x.2.2).Nodup
 ly:∀ (j:Int) (x:List Nat×T),x∈s.2 j->j=prQ pr x.1/\(∀k∈x.1,k<n)/\x.2=tabQ beh t0 x.1/\(x.1=[]\/∃r k,x.1=r++[k]/\(prQ pr r,r,tabQ beh t0 r)∈s.1)
 par:∀ (i:Nat) (e:Ent T),s.1[i]? =some e->(e.2.1=[]/\i=0)\/∃r k i',e.2.1=r++[k]/\i'<i/\s.1[i']? =some (prQ pr r,r,tabQ beh t0 r)
 ch:∀e∈s.1,∀k,k<n->(e.2.1++[k],beh k e.2.2)∈s.2 (e.1+pr k)
 done:∀ (j:Int) (x:List Nat×T),j<=t->x∈s.2 j->(j=t/\x∈rest)\/(∃e∈s.1,e.2.2=x.2/\e.1<=j)\/500<(s.1.filter λe=>decide<|e.1<=j).length
 sub:∀x∈rest,x∈s.2 t
 le:s.1.length<=501
variable {n pr beh t0}
theorem Ok.step(hp:∀k,k<n->1<=pr k){t:Int}(ht:0<=t){e:List Nat×T}{rest:List (List Nat×T)}{s:List (Ent T)×Lay T}(o:Ok n pr beh t0 t (e::rest) s):Ok n pr beh t0 t rest (one n pr beh t s e):=by
 have em:=o.sub e aE;obtain⟨l1,l2,l3,l4⟩:=o.ly t e em;unfold one
 by_cases c:e.2∉s.1.map (λx=>x.2.2)/\s.1.length<=500
 ·rw[if_pos c];obtain⟨c1,c2⟩:=c
  have old:∀ (j:Int) (x:List Nat×T),j<=t->x∈put pr beh t e.1 e.2 n s.2 j->x∈s.2 j:=λj x hj hx=>by
   rcases(nA pr beh t e.1 e.2 s.2 n j x).mp hx with h|⟨k,hk,h,_⟩
   ·exact h
   ·have:=hp k hk;omega
  refine⟨λx hx=> ?_, ?_,λj x hx=> ?_,λi x hx=> ?_,λx hx k hk=> ?_,λj x hj hx=> ?_,λx hx=>(nA pr beh t e.1 e.2 s.2 n t x).mpr<|.inl (o.sub x<|aC _ hx), ?_⟩
  ·rcases aK.mp hx with hx|hx
   ·exact o.ent x hx
   ·rw[aD.mp hx];exact⟨ht,lG _,l1,l2,l3⟩
  ·rw[aU]
   exact aY.mpr ⟨o.nd,by simp,fun x hx y hy z=>c1 (by
    have:y=e.2:=by simpa using hy
    rw[<-this,<-z]
    exact hx)⟩
  ·rcases(nA pr beh t e.1 e.2 s.2 n j x).mp hx with h|⟨k,hk,h1,h2⟩
   ·obtain⟨q1,q2,q3,q4⟩:=o.ly j x h;exact⟨q1,q2,q3,q4.imp id λ⟨r,k,z1,z2⟩=>⟨r,k,z1,aS _ z2⟩⟩
   ·rw[h2];refine⟨by rw[h1,pr_snoc,<-l1],λi hi=> ?_,by rw[tab_snoc,<-l3],.inr ⟨e.1,k,rfl,aH _<|by rw[<-l1,<-l3];exact bI _⟩⟩
    rcases aK.mp hi with hi|hi
    ·exact l2 i hi
    ·rw[aD.mp hi];exact hk
  ·by_cases z:i<s.1.length
   ·rw[cK z] at hx
    rcases o.par i x hx with h|⟨r,k,i',h1,h2,h3⟩
    ·exact .inl h
    ·exact .inr ⟨r,k,i',h1,h2,by rw[cK<|by omega];exact h3⟩
   ·rw[cV<|by omega] at hx
    have i0:i-s.1.length=0:=by have:=(aF.mp hx).1;simp at this;omega
    rw[i0] at hx;have ex:(t,e.1,e.2)=x:=by simpa using hx
    subst ex
    rcases l4 with h|⟨r,k,h1,h2⟩
    ·refine .inl ⟨h, ?_⟩
     have:s.1=[]:=by
      cases q:s.1 with
      |nil=>rfl
      |cons f fs=>
       exfalso;have f0:s.1[0]? =some f:=by rw[q];rfl
       rcases o.par 0 f f0 with⟨g1,_⟩|⟨_,_,i',_,g2,_⟩
       ·have fm:f∈s.1:=aN f0;obtain⟨_,_,_,_,g5⟩:=o.ent f fm;refine c1<|aX.mpr ⟨f,fm, ?_⟩;rw[g5,g1,l3,h]
       ·omega
     rw[this] at i0 z;simp at i0;exact i0
    ·obtain⟨i',hi'⟩:=cZ h2;have:=(aF.mp hi').1;exact .inr ⟨r,k,i',h1,by omega,by rw[cK this];exact hi'⟩
  ·rcases aK.mp hx with hx|hx
   ·exact(nA pr beh t e.1 e.2 s.2 n _ _).mpr (.inl<|o.ch x hx k hk)
   ·rw[aD.mp hx];exact(nA pr beh t e.1 e.2 s.2 n _ _).mpr<|.inr ⟨k,hk,rfl,rfl⟩
  ·rcases o.done j x hj (old j x hj hx) with⟨h1,h2⟩|⟨f,h1,h2,h3⟩|h
   ·rcases aR.mp h2 with h2|h2
    ·refine .inr<|.inl ⟨(t,e.1,e.2),aH _<|bI _,by rw[h2], ?_⟩;rw[h1];exact lG _
    ·exact .inl ⟨h1,h2⟩
   ·exact .inr<|.inl ⟨f,aS _ h1,h2,h3⟩
   ·refine .inr<|.inr ?_;rw[qF,aM];omega
  ·rw[aM];show s.1.length+1<=501;omega
 ·rw[if_neg c];refine⟨o.ent,o.nd,o.ly,o.par,o.ch,λj x hj hx=> ?_,λx hx=>o.sub x<|aC _ hx,o.le⟩
  rcases o.done j x hj hx with⟨h1,h2⟩|h
  ·rcases aR.mp h2 with h2|h2
   ·refine .inr ?_
    by_cases m:e.2∈s.1.map (λx=>x.2.2)
    ·obtain⟨f,f1,f2⟩:=aX.mp m;exact .inl ⟨f,f1,by rw[h2];exact f2,by rw[h1];exact(o.ent f f1).2.1⟩
    ·refine .inr ?_;have:s.1.filter (λe=>decide<|e.1<=j)=s.1:=dH.mpr λf hf=>decide_eq_true (by rw[h1];exact(o.ent f hf).2.1)
     rw[this];exact mG λz=>c ⟨m,z⟩
   ·exact .inl ⟨h1,h2⟩
  ·exact .inr h
theorem Ok.fold(hp:∀k,k<n->1<=pr k){t:Int}(ht:0<=t):∀ {rest:List (List Nat×T)}{s:List (Ent T)×Lay T},Ok n pr beh t0 t rest s->Ok n pr beh t0 t [] (rest.foldl (one n pr beh t) s)
 |[],_,o=>o
 |e::rest,s,o=>Ok.fold (rest:=rest) (s:=one n pr beh t s e) hp ht<|o.step hp ht
theorem ok_run(hp:∀k,k<n->1<=pr k):∀t:Nat,Ok n pr beh t0 (t:Int) ((run n pr beh t0 t).2 t) (run n pr beh t0 t)
 |0=>by
  refine⟨λe h=>(nomatch h),cH,λj x hx=> ?_,λi e h=>by simp[run] at h,λe h=>(nomatch h),λj x hj hx=> ?_,λx hx=>hx,bJ _⟩
  ·have hx:x∈(if j=0 then[(([]:List Nat),t0)] else[]):=hx
   by_cases z:j=0
   ·rw[if_pos z] at hx;rw[aD.mp hx,z];exact⟨rfl,λk hk=>(nomatch hk),rfl,.inl rfl⟩
   ·rw[if_neg z] at hx;cases hx
  ·have hx2:x∈(if j=0 then[(([]:List Nat),t0)] else[]):=hx
   by_cases z:j=0
   ·subst z;exact .inl ⟨rfl,hx⟩
   ·rw[if_neg z] at hx2;cases hx2
 |t+1=>by
  have o:=Ok.fold hp (qY t)<|ok_run hp t;have o:Ok n pr beh t0 (t:Int) [] (run n pr beh t0<|t+1):=o;refine⟨λe he=> ?_,o.nd,o.ly,o.par,o.ch,λj x hj hx=> ?_,λx hx=>hx,o.le⟩
  ·obtain⟨h1,h2,h3⟩:=o.ent e he;exact⟨h1,by omega,h3⟩
  ·by_cases z:j<=(t:Int)
   ·rcases o.done j x z hx with⟨_,h⟩|h
    ·cases h
    ·exact .inr h
   ·have:j=((t+1:Nat):Int):=by omega
    subst this;exact .inl ⟨rfl,hx⟩
theorem ok_end(hp:∀k,k<n->1<=pr k)(t:Nat):Ok n pr beh t0 (t:Int) [] (run n pr beh t0<|t+1):=Ok.fold hp (qY t)<|ok_run hp t
variable (n pr beh)
def HoldsP(b:Int)(B:List (Ent T)):Prop:=(∃e∈B,e.2.1=[])/\∀e∈B,∀k,k<n->e.1+pr k<=b->∃e'∈B,e'.2.2=beh k e.2.2/\e'.1<=e.1+pr k
variable {n pr beh}
variable {t b:Int}{s:List (Ent T)×Lay T}{B:List (Ent T)}
theorem holds_all(hp:∀k,k<n->1<=pr k)(o:Ok n pr beh t0 t [] s)(hb:b<=t)(h0:0<=b)(ne:s.1≠[])(hc:(s.1.filter λe=>decide<|e.1<=b).length<=500)(hB:∀x,x∈B↔x∈s.1/\x.1<=b):HoldsP n pr beh b B:=by
 refine⟨?_,λe he k hk hle=> ?_⟩
 ·cases q:s.1 with
  |nil=>exact absurd q ne
  |cons f fs=>
   have f0:s.1[0]? =some f:=by rw[q];rfl
   have fm:=aN f0
   rcases o.par 0 f f0 with⟨g1,_⟩|⟨_,_,i',_,g2,_⟩
   ·refine⟨f,(hB f).mpr ⟨fm, ?_⟩,g1⟩;have:=(o.ent f fm).2.2.1;rw[g1] at this;have:f.1=0:=this;omega
   ·omega
 ·obtain⟨e1,e2⟩:=(hB e).mp he
  rcases o.done _ _ (by omega) (o.ch e e1 k hk) with⟨_,h⟩|⟨f,h1,h2,h3⟩|h
  ·cases h
  ·exact⟨f,(hB f).mpr ⟨h1,by omega⟩,h2,h3⟩
  ·exfalso
   have mono:(s.1.filter λf=>decide<|f.1<=e.1+pr k).length<=(s.1.filter λf=>decide<|f.1<=b).length:=by rw[<-uW,<-uW];exact List.countP_mono_left λf _ hf=>decide_eq_true<|Int.le_trans (of_decide_eq_true hf) hle
   omega
end S45
end DL
namespace DL
open PySem PySem.Spec PyProof.Rows L2
variable {p:Int×Int}{L:List SK}
noncomputable def iO(p:Int×Int)(q:SQ):List Nat:=(cX p).map λws=>qM p<|onQ p q ws
noncomputable def iB(other one:List Nat):List Nat:=one.map λi=>other.getD i 0
noncomputable def jR(p:Int×Int)(nb:List Nat):List (List Int):=nb.map λi=>(cX p).getD i []
noncomputable def hW(p:Int×Int)(L:List SK)(k:Nat)(t:List (List Int)):List (List Int):=t.map<|onQ p (L.getD k AR).1
noncomputable def prK(L:List SK)(k:Nat):Int:=(L.getD k AR).2
noncomputable def mvD(p:Int×Int)(s:SK):D:=.tup [.int s.2,.tup (cN<|iO p s.1)]
def NOk(p:Int×Int)(nb:List Nat):Prop:=nb.length=(cX p).length/\∀i∈nb,i<(cX p).length
theorem aHA(p:Int×Int)(q:SQ):(iO p q).length=(cX p).length:=by unfold iO;rw[aB]
theorem aFp(q:SQ){i:Nat}(hi:i<(cX p).length):(iO p q).getD i 0=qM p (onQ p q<|(cX p).getD i []):=by unfold iO;simp[cP,hi]
theorem aIQ(hp:p∈cG){i:Nat}(hi:i<(cX p).length):Fil p ((cX p).getD i []):=yM hp<|getD_mem hi
theorem aJR(hp:p∈cG){q:SQ}(O:oW p q){i:Nat}(hi:i<(cX p).length):(iO p q).getD i 0<(cX p).length:=by rw[aFp q hi];exact(aBj hp (wO O<|aIQ hp hi)).2.1
theorem aHV(hp:p∈cG){q:SQ}(O:oW p q){nb:List Nat}(h:NOk p nb):NOk p (iB (iO p q) nb):=by refine⟨by unfold iB;rw[aB];exact h.1,λi hi=> ?_⟩;obtain⟨j,hj,rfl⟩:=aX.mp hi;exact aJR hp O<|h.2 j hj
theorem aEw(hp:p∈cG){q:SQ}(O:oW p q){nb:List Nat}(h:NOk p nb):jR p (iB (iO p q) nb)=(jR p nb).map (onQ p q):=by
 unfold jR iB;rw[bH,bH];refine cA λi hi=> ?_
 show(cX p).getD ((iO p q).getD i 0) []=onQ p q ((cX p).getD i []);rw[aFp q<|h.2 i hi];exact(aBj hp<|wO O (aIQ hp<|h.2 i hi)).2.2
theorem aEi(hp:p∈cG){a b:List Nat}(ha:NOk p a)(hb:NOk p b)(h:jR p a=jR p b):a=b:=by
 refine mC (ha.1.trans hb.1.symm) λi h1 h2=> ?_
 have e:(jR p a)[i]'(by unfold jR;rw[aB];exact h1)=(jR p b)[i]'(by unfold jR;rw[aB];exact h2):=by simp only[h]
 unfold jR at e;rw[eA,eA] at e;rw[<-aAW hp (ha.2 _<|hZ h1),<-aAW hp (hb.2 _<|hZ h2),e]
noncomputable def st0(p:Int×Int):List Nat:=bQ (cX p).length
theorem aJa(p:Int×Int):NOk p (st0 p):=⟨by unfold st0;rw[eY],λi hi=>dU.mp hi⟩
theorem aGv(p:Int×Int):jR p (st0 p)=cX p:=by
 unfold jR st0;refine mC (by simp) λi h1 h2=> ?_
 rw[eA,aES];simp[cP,h2]
noncomputable def nrQ(p:Int×Int)(L:List SK)(row:List Nat):List Nat:=row.foldl (λnb k=>iB (iO p (L.getD k AR).1) nb)<|st0 p
theorem xL(row:List Nat)(k:Nat):nrQ p L (row++[k])=iB (iO p (L.getD k AR).1) (nrQ p L row):=by unfold nrQ;rw[gR];rfl
theorem aAS(hp:p∈cG)(S:∀s∈L,oW p s.1):∀ {row:List Nat},jF L row->NOk p (nrQ p L row)/\jR p (nrQ p L row)=S45.tabQ (hW p L) (cX p) row:=λ{row}=>by
 have g:∀ (row:List Nat) (nb:List Nat) (t:List (List Int)),NOk p nb->jR p nb=t->jF L row->NOk p (row.foldl (λnb k=>iB (iO p (L.getD k AR).1) nb) nb)/\jR p (row.foldl (λnb k=>iB (iO p (L.getD k AR).1) nb) nb)=row.foldl (λt k=>hW p L k t) t:=λrow=>by
  induction row with
  |nil=>exact λnb t h1 h2 _=>⟨h1,h2⟩
  |cons k row ih=>
   intro nb t h1 h2 h3;have O:oW p (L.getD k AR).1:=S _ (DL.getD_mem<|h3 k aE);refine ih _ _ (aHV hp O h1) ?_ λj hj=>h3 j<|aC _ hj
   rw[aEw hp O h1,h2];rfl
 exact λh=>g row (st0 p) (cX p) (aJa p) (aGv p) h
open Classical in
noncomputable def tF(L:List SK)(d:D):SK:=if h:∃s,s∈L/\skD s=d then h.choose else AR
theorem uO(nd:(L.map λs=>sqD s.1).Nodup){s:SK}(h:s∈L):tF L (skD s)=s:=by
 have ex:∃z,z∈L/\skD z=skD s:=⟨s,h,rfl⟩;unfold tF;rw[dif_pos ex];obtain⟨h1,h2⟩:=ex.choose_spec;generalize ex.choose=z at h1 h2;obtain⟨i,hi,ez⟩:=fE h1;obtain⟨j,hj,es⟩:=fE h
 have e:sqD z.1=sqD s.1:=by
  have h2:D.tup [sqD z.1,.int z.2]=D.tup [sqD s.1,.int s.2]:=h2;injection h2 with h2
  exact(sK.inj h2).1
 have:i=j:=(fI (i:=i) (j:=j) (h₀:=by rw[aB];exact hi) (h₁:=by rw[aB];exact hj) nd).mp (by rw[eA,eA,ez,es,e]);subst this;exact ez.symm.trans es
def aLV:List D->R->Prop:=λds r=>∃p q,p∈cG/\oW p q/\ds=[cQ p,sqD q]/\r=.val (.tup (cN<|iO p q))
def aFl:List D->R->Prop:=λds r=>∃p L,p∈cG/\StkOk p L/\(L.map λs=>sqD s.1).Nodup/\ds=[cQ p,.lst<|L.map skD]/\r=.own (L.map<|mvD p)
def aIv:List D->R->Prop:=λds r=>∃one other:List Nat,one.length<=100/\(∀i∈one,i<other.length)/\ds=[.tup<|cN one,.tup<|cN other]/\r=.val (.tup (cN<|iB other one))
def aFg:List D->R->Prop:=λds r=>∃ (B:List (List Int)) (nb:List Nat),nb.length<=100/\(∀i∈nb,i<B.length)/\ds=[.lst<|B.map bK,.tup<|cN nb]/\r=.val (.tup<|(nb.map λi=>B.getD i []).map bK)
section
variable {X:Cx}{sd:List Slot}{a b:Expr}{pos:Pos}{ds:List D}{κ:Type}[DecidableEq κ]{hk:HK X.prog X.w κ}{ks:List κ}{k:κ}{kk:Bool}
theorem aEc(h:kk=true↔k∈ks):decide (k∈ks)=kk:=by
 cases kk with
 |true=>exact decide_eq_true<|h.mp rfl
 |false=>exact decide_eq_false λz=>by cases h.mpr z
theorem aAk(h:kk=true↔k∈ks)(hu:X.A.units+2<AQ)(ha:PEd X sd a (.val<|hk.dat k))(hb:PDc X sd b hk ks ds)(hm:Ab .NotIn b=false:=by with_unfolding_all rfl):PTd X sd (.Compare a [.NotIn] [b] pos) (!kk):=PTd.cast (aDC hu ha hb hm) (by rw[aEc h])
end
noncomputable abbrev Bk:=S45.Ent (List<|List Int)
noncomputable def enD(e:Bk):D:=.tup [.int e.1,.tup<|cN e.2.1,.tup<|e.2.2.map bK]
noncomputable def kM(nb:List Nat):List Key:=nb.map λ(i:Nat)=>(Sum.inl (i:Int):Key)
theorem aEU(nb:List Nat):tD (kM nb)=.tup (cN nb):=by unfold tD kM cN;rw[bH];rfl
theorem aAf:∀ {a b:List Nat},kM a=kM b->a=b
 |[],[],_=>rfl
 |[],_::_,h=>by cases h
 |_::_,[],h=>by cases h
 |x::a,y::b,h=>by
  have h:(Sum.inl (x:Int):Key)::kM a=(Sum.inl (y:Int):Key)::kM b:=h;injection h with h1 h2
  have:=Sum.inl.inj h1;rw[aAf h2];congr 1;omega
variable {prog:AF}{w:AM}{A:BG}{E:BD->BE->Prop}{s:BE}{r:BF}{n:Nat}{t u v:Tok}
theorem wP{Q:List BD->BE->Prop}(hh:A.handled=none)(ir:IsRange s.heap r 0 (n:Int) 1 t u v)(hn:n<=10000)
  (q:∀ (h':BH) (tk:Nat) (acc:Array BD),(∀b o,s.heap.get? b=some o->h'.get? b=some o)->ItemsOf (λi v=>∃t,v=.int (0+i*1) t) acc n->Q acc.toList {s with heap:=h',toks:=tk}):AK (AH prog w) A (collect<|.ref r) Q E s:=by
 have sz:Builtin.Range.rangeSize 0 (n:Int) 1=(n:Int):=by
  rw[rangeSize_one]
  split<;>omega
 have fin:∀ (h':BH) (tk:Nat) (acc:Array BD) (c':Nat),(∀b o,s.heap.get? b=some o→h'.get? b=some o)→h'.get? s.heap.objs.size=some {cls:= .type "list",dict:=none,data:= .seq acc c',slots:= #[]}→ItemsOf (fun i v=>∃t,v= .int (0+i * 1) t) acc n→AK (AH prog w) A (do
   let o <-load s.heap.objs.size
   match o.data with
   |.seq xs _=>pure xs.toList
   |_=>unsupported "internal:collect") Q E {s with heap:=h',toks:=tk}:=λh' tk acc c' k1 k2 k3=>AA (wpAny_load k2 (AB (q h' tk acc k1 k3)))
 have new:(s.heap.push {cls:=.type "list",data:=.seq ([]:List BD).toArray}).get? s.heap.objs.size=some {cls:=.type "list",data:=.seq #[]}:=bO _ rfl;have main:=wpAny_extend_range (prog:=prog) (w:=w) (A:=A) (s:={s with heap:=s.heap.push {cls:=.type "list",data:=.seq ([]:List BD).toArray}}) (R:=λ(x:Result) (st:BE)=>∃ (h':BH) (tk:Nat) (acc:Array BD) (c':Nat),x=.ok (.ret<|.ref s.heap.objs.size)/\st={s with heap:=h',toks:=tk}/\(∀b o,s.heap.get? b=some o->h'.get? b=some o)/\h'.get? s.heap.objs.size=some {cls:=.type "list",dict:=none,data:=.seq acc c',slots:= #[]}/\ItemsOf (λi v=>∃t,v=.int (0+i*1) t) acc n) hh (aJ _ ir) (small_one (by omega) (by omega) (by omega)<|by omega) sz (by omega) s.heap.objs.size (.ref s.heap.objs.size) 0 new λh' tk acc c' k1 k2 k3=>⟨h',tk,acc,c',rfl,rfl,λb o g=>k1 b o (bN<|aP g)<|aJ _ g,k2,k3⟩
 unfold collect;refine AA (wpAny_runValue<|Aw entry_proto_collect' ?_);rw[Around.under_plainId PySem.F.plain_proto_collect _];refine AA (m:=newList []) (AT<|AB ⟨plainId_quiet wM _,Aw entry_list_iadd' ?_⟩);rw[Around.under_plainId wM _];refine AW main (λz st x=> ?_) λz st x=> ?_
 ·cases z with
  |done f=>obtain⟨h',tk,acc,c',e,rfl,k1,k2,k3⟩:=x;cases e;exact fin h' tk acc c' k1 k2 k3
  |again c1=>refine⟨x.1,Az x.2 λy st y2=> ?_⟩;obtain⟨h',tk,acc,c',rfl,rfl,k1,k2,k3⟩:=y2;exact fin h' tk acc c' k1 k2 k3
 ·obtain⟨_,_,_,_,e,_⟩:=x;cases e
theorem wU(r:BF)(n:Nat)(t u v:Tok)(hn:n<=10000):Meets (Builtin.«tuple.__new__» ⟨[.type "tuple",.ref r],[]⟩) (λA R s=>A.handled=none/\IsRange s.heap r 0 (n:Int) 1 t u v/\∀ (h':BH) (tk:Nat) (acc:Array BD),(∀b o,s.heap.get? b=some o->h'.get? b=some o)->ItemsOf (λi v=>∃t,v=.int (0+i*1) t) acc n->R (.ok (.ret<|.ref h'.objs.size)) {s with heap:=h'.push {cls:=.type "tuple",data:=.seq acc},toks:=tk}):=
 .of_wp λprog w A R s h=>by
  obtain⟨hp,gn,dr,tk,os⟩:=s;obtain⟨hh,ir,q⟩:=h;have a1:=sub_tuple_self;have a2:=init_tuple_lookup;have a3:=madeHere_tuple;have ty:Shared.TypeIs ⟨hp,gn,dr,tk,os⟩ (.ref r) "range":=⟨_,ir,rfl⟩;have hh1:A.in1.handled=none:=hh
  wp_walk using AutoSeq1.wpAny_loadPart' ir,wpAny_typeOf ty,wP (s:=⟨hp,gn,dr,tk,os⟩) hh1 ir hn
  intro h' tk' acc k1 k2;refine AA (m:=Builtin.Tuple.tupleExact acc.toList.toArray) ?_;unfold Builtin.Tuple.tupleExact;have e:acc.toList.toArray=acc:=by simp
  rw[e];exact AT (AB ⟨_,rfl,q h' tk' acc k1 k2⟩) (show acc.size<=AL by rw[k2.1];exact dC<|eV hn)
theorem uZ{Q:BD->BE->Prop}(hh:A.handled=none)(ir:IsRange s.heap r 0 (n:Int) 1 t u v)(hn:n<=10000)
  (q:∀ (h':BH) (tk:Nat) (acc:Array BD),(∀b o,s.heap.get? b=some o->h'.get? b=some o)->ItemsOf (λi v=>∃t,v=.int (0+i*1) t) acc n->Q (.ref h'.objs.size) {s with heap:=h'.push {cls:=.type "tuple",data:=.seq acc},toks:=tk}):AK (AH prog w) A (call (.type "tuple") [.ref r]) Q E s:=
 callType_new F.called_tuple (by decide) (F.typeCall_tuple_1 _) (F.newCall_tuple_1 _) (λobj=>F.args_object_init_2 obj _) F.entry_tuple_new (wU r n t u v hn) ⟨hh,ir,λh' tk acc k1 k2=>⟨⟨_,bO _ rfl,rfl⟩,q h' tk acc k1 k2⟩⟩
variable {X:Cx}{sd:List Slot}{e:Expr}{pos:Pos}
theorem rH{p p2 q2:Pos}(hg:Gl X "tuple")(hm:X.mg "tuple"=none)(hg2:Gl X "range")(hm2:X.mg "range"=none)(ha:PEd X sd e (.val<|.int (n:Int)))(h1:n<=10000)
  (hc:X.calm=true:=by rfl) (hst:AC [e] X.env=(false,eval e X.env)::AC [] X.env:=by rfl) (hst2:AC [.Call (.Name "range" p2) [e] [] q2] X.env=(false,eval (.Call (.Name "range" p2) [e] [] q2) X.env)::AC [] X.env:=by rfl):
  PEd X sd (.Call (.Name "tuple" p) [.Call (.Name "range" p2) [e] [] q2] [] pos) (.val<|.tup (cN<|bQ n)):=.mk λσ F H S pins s I=>by
 refine Aa (mL I hg hm PyProof.Rows.boot_tuple<|PyProof.Rows.callWith_type1 ?_ hst2 rfl);rw[hst2];refine Calls.spliced_cons (Aa<|mL I hg2 hm2 boot_range ?_);refine PyProof.Rows.callWith_type1 (thn ((dE (te:=wE X e) fG pa_nil hst) q2 pins s σ H (λus H1=>∃v F1,us=[v]/\StF X.K X.B₀ F1 H1 σ sd/\Same F F1/\ResOk X.K F1 H1 sd (.val<|.int (n:Int)) v) I<|(ha σ F H S).imp λv H1 ⟨F1,S1,s1,q1⟩=>⟨v,F1,rfl,S1,s1,q1⟩) λus s1 hus=> ?_) hst rfl;obtain⟨ws,H1,I1,rv,v,F1,rfl,S1,sF,q1⟩:=hus;obtain⟨u,rfl,ru⟩:=rD rv;simp only[ResOk,Rep] at q1;subst q1;obtain⟨t,rfl⟩:=ru;refine call_range_1<|Calls.spliced_nil ?_;refine uZ (I1.ok.hd hc) (IsRange.new ..) h1 λh' tk acc kp it=> ?_
 have kp2:∀b o,s1.heap.get? b=some o->h'.get? b=some o:=λb o g=>kp b o<|aJ _ g
 have le:s1.heap.objs.size<=h'.objs.size:=dC<|aP (kp s1.heap.objs.size _<|bO _ rfl);have hD:H1 h'.objs.size=none:=I1.hok.fresh le;have ln:acc.toList.length=n:=by rw[bS];exact it.1
 have vl:Vals ((bQ n).map λ(k:Nat)=>V.int (k:Int)) acc.toList:=by
  have g:∀ (l:List BD) (f:Nat->Int),(∀ (j:Nat) (v:BD),l[j]? =some v->∃t,v=.int (f j) t)->Vals ((bQ l.length).map λ(k:Nat)=>V.int<|f k) l:=λl=>by
   induction l with
   |nil=>intro f _;exact .nil
   |cons x l ih=>intro f h;obtain⟨t,e⟩:=h 0 x rfl;rw[bL,List.range_succ_eq_map,aV,bH];exact .cons ⟨t,e⟩ (ih (λk=>f<|k+1) λj v hv=>h (j+1) v<|by simpa using hv)
  have:=g acc.toList (λk=>(k:Int)) λj v hv=>by obtain⟨t,e⟩:=it.2 j v (by rw[<-cS];exact hv);exact⟨t,by rw[e];congr 1;omega⟩
  rw[ln] at this;exact this
 have I3:Inv X pins σ (upd H1 h'.objs.size (.tup<|(bQ n).map λ(k:Nat)=>V.int (k:Int))) {s1 with heap:=h'.push {cls:=.type "tuple",data:=.seq acc},toks:=tk}:=
  I1.laid (λb o g=>aJ _<|kp2 b o g) le ⟨by rw[aB,eY];exact dC<|eV h1,acc.toList,vl,by simpa using IsTupD.new h' acc⟩
 obtain⟨S4,s4⟩:=S1.lay (o:=.tup<|(bQ n).map λ(k:Nat)=>V.int (k:Int)) hD trivial;refine⟨.ref h'.objs.size,_,I3,rfl,_,S4,sF.trans s4, ?_⟩;simp only[ResOk,Rep];refine⟨_,_,rfl,bM, ?_⟩
 have gg:∀ks:List Nat,RepL X.K (upd F1 h'.objs.size (.tup<|(bQ n).map λ(k:Nat)=>V.int (k:Int))) (ks.map λ(k:Nat)=>D.int (k:Int)) (ks.map λ(k:Nat)=>V.int (k:Int)):=λks=>by
  induction ks with
  |nil=>exact .nil
  |cons k ks ih=>exact .cons (by simp only[Rep]) ih
 exact gg _
noncomputable def mx1(c:Int)(k:Nat):Int:=(c%2147483647+69621*(k:Int)+7919)*48271%2147483647
noncomputable def mx2(c:Int)(k:Nat):Int:=mx1 c k*mx1 c k%2147483629
noncomputable def mxS(c:Int)(k:Nat):Int:=if c%2=0 then c / ((2^(8*k+1):Nat):Int) else(mx2 c k*mx2 c k+16807*(k:Int))%2147483587
def CMx:List D->R->Prop:=λds r=>∃ (c:Int) (k:Nat),ds=[.int c,.int (k:Int)]/\k<=400/\r=.val (.int<|mxS c k)
def aIz:List D->R->Prop:=λds r=>∃p q ws,oW p q/\Fil p ws/\ds=[cQ p,sqD q,bK ws]/\r=.val (.int<|nwQ p q ws)
def aFL:List D->R->Prop:=λds r=>∃p q ws,oW p q/\Fil p ws/\ds=[cQ p,sqD q,bK ws]/\r=.val (bK<|onQ p q ws)
noncomputable def drQ(p:Int×Int)(c:Int):SQ:=((mxS c 1%10).toNat,mxS c 2%p.2,mxS c 4%p.2,mxS c 3%((2^p.1.toNat:Nat):Int))
def aIM:List D->R->Prop:=λds r=>∃p c,p∈cG/\ds=[cQ p,.int c]/\r=.val (sqD<|drQ p c)
theorem aKp(hp:p∈cG)(c:Int):oW p (drQ p c):=by
 obtain⟨h1,h2,h3,h4,h5⟩:=uX p hp;have p20:(0:Int)<p.2:=by omega
 have m0:=pw0 p.1.toNat;have d1:=dD (mxS c 1) (show(0:Int)<10 by decide);exact⟨hp,by show(mxS c 1%10).toNat<10;omega,⟨dX _<|kC p20,dD _ p20⟩,⟨dX _<|kC p20,dD _ p20⟩,⟨dX _<|kC m0,dD _ m0⟩⟩
theorem pV{α:Type}{f:α->D}{L:List α}{t:Nat}{d:D}(h:(L.map f)[t]? =some d):∃x,L[t]? =some x/\d=f x/\L.take (t+1)=L.take t++[x]:=by rw[bB] at h;obtain⟨x,h1,h2⟩:=eD.mp h;exact⟨x,h1,h2.symm,by rw[eX,h1];rfl⟩
theorem aHT{α:Type}{L:List α}(nd:L.Nodup){t:Nat}{x:α}(h:L[t]? =some x):x∉L.take t:=λz=>by
 obtain⟨i,hi,e⟩:=fE z;have il:i<t:=by rw[cO] at hi;omega
 rw[List.getElem_take] at e;obtain⟨t1,e2⟩:=aF.mp h;have:=(fI nd).mp<|e.trans e2.symm;omega
theorem aCO(hp:p∈cG):(cX p).Nodup:=by
 have e:(cX p).map (qM p)=bQ (cX p).length:=by
  refine mC (by simp) λi h1 h2=> ?_
  have hi:i<(cX p).length:=by simpa using h1
  rw[eA,aES];have:=aAW hp hi;simpa[cP,hi] using this
 have nd:((cX p).map<|qM p).Nodup:=by rw[e];exact aIc
 exact List.Pairwise.of_map _ (λa b h z=>h<|by rw[z]) nd
noncomputable def inK(ws:List Int):List Key:=ws.map λ(i:Int)=>(Sum.inl i:Key)
theorem aGj(ws:List Int):tD (inK ws)=bK ws:=by unfold tD inK bK;rw[bH];rfl
theorem xX:∀ {a b:List Int},inK a=inK b->a=b
 |[],[],_=>rfl
 |[],_::_,h=>by cases h
 |_::_,[],h=>by cases h
 |x::a,y::b,h=>by
  have h:(Sum.inl x:Key)::inK a=(Sum.inl y:Key)::inK b:=h;injection h with h1 h2
  rw[xX h2,Sum.inl.inj h1]
theorem rB:∀ {a b:List (List Int)},a.map inK=b.map inK->a=b
 |[],[],_=>rfl
 |[],_::_,h=>by cases h
 |_::_,[],h=>by cases h
 |x::a,y::b,h=>by
  rw[aV,aV] at h;injection h with h1 h2
  rw[rB h2,xX h1]
noncomputable def mgD(P:AF)(w:AM)(K:aA)(p:Int×Int)(s:SK):D:=gD (hkT P w) K ((cX p).map inK) ((cX p).map λws=>bK<|onQ p s.1 ws)
def aLX(P:AF)(w:AM)(K:aA):List D->R->Prop:=λds r=>∃p L,p∈cG/\StkOk p L/\ds=[cQ p,.lst<|L.map skD]/\r=.own (L.map<|mgD P w K p)
noncomputable def sS(L:List SK)(q:SQ):Bool:=(L.map λs=>sqD s.1).any λz=>deq z<|sqD q
theorem aGG{q:SQ}(h:sS L q=false):sqD q∉L.map λs=>sqD s.1:=λhm=>by
 unfold sS at h;have:=aFO.mp h _ hm
 exact this (zF _ (by
  show pl (hV _ _ _ _)=true;unfold hV
  split
  ·rfl
  ·split<;>rfl))
namespace S45
section
variable {T:Type}[DecidableEq T]{n:Nat}{pr:Nat->Int}{beh:Nat->T->T}{t0:T}
theorem put_len(t:Int)(row:List Nat)(tab:T)(ly:Lay T):∀ (m:Nat) (j:Int),(put pr beh t row tab m ly j).length<=(ly j).length+m
 |0,j=>aO _
 |m+1,j=>by
  have ih:=put_len t row tab ly m j;show(if j=t+pr m then put pr beh t row tab m ly j++[(row++[m],beh m tab)] else put pr beh t row tab m ly j).length<=_
  split
  ·rw[aM];show _+1<=_;omega
  ·omega
def Bd(n:Nat)(s:List (Ent T)×Lay T):Prop:=∀j,(s.2 j).length<=1+n*s.1.length
theorem aJC{t:Int}{s:List (Ent T)×Lay T}(e:List Nat×T)(h:Bd n s):Bd n (one n pr beh t s e):=by
 unfold one
 split
 ·intro j;have:=put_len (pr:=pr) (beh:=beh) t e.1 e.2 s.2 n j;have:=h j;show(put pr beh t e.1 e.2 n s.2 j).length<=1+n*(s.1++[_]).length;rw[aM];show _<=1+n*(s.1.length+1);rw[Nat.mul_succ];omega
 ·exact h
theorem fold_bd{t:Int}:∀ {rest:List (List Nat×T)}{s:List (Ent T)×Lay T},Bd n s->Bd n (rest.foldl (one n pr beh t) s)
 |[],_,h=>h
 |e::rest,s,h=>fold_bd (rest:=rest) (s:=one n pr beh t s e)<|aJC e h
theorem run_bd:∀t:Nat,Bd n (run n pr beh t0 t)
 |0=>λj=>by
  show(if j=0 then[(([]:List Nat),t0)] else[]).length<=_
  split
  ·exact aIm _ _
  ·exact bJ _
 |t+1=>fold_bd<|run_bd t
theorem Ok.take(hp:∀k,k<n->1<=pr k){t:Int}(ht:0<=t):∀ (m:Nat) {rest:List (List Nat×T)}{s:List (Ent T)×Lay T},Ok n pr beh t0 t rest s->Ok n pr beh t0 t (rest.drop m) ((rest.take m).foldl (one n pr beh t) s)
 |0,_,_,o=>o
 |_+1,[],_,o=>o
 |m+1,e::rest,s,o=>Ok.take hp ht m (rest:=rest) (s:=one n pr beh t s e)<|o.step hp ht
theorem len_pr:∀ (row:List Nat),(∀k∈row,1<=pr k)->(row.length:Int)<=prQ pr row
 |[],_=>lG _
 |k::row,h=>by
  have:=len_pr row λj hj=>h j<|aC _ hj
  have h1:=h k aE;show((row.length+1:Nat):Int)<=(pr k::row.map pr).sum;rw[aKJ];have:prQ pr row=(row.map pr).sum:=rfl;omega
end
end S45
noncomputable abbrev aLQ:=List Bk×S45.Lay (List<|List Int)
noncomputable def tbK(t:List (List Int)):List (List Key):=t.map inK
theorem aLr(t:List (List Int)):D.tup ((tbK t).map tD)=.tup (t.map bK):=by
 unfold tbK;rw[bH];congr 1;refine cA λws _=> ?_
 exact aGj ws
noncomputable def ksE(B:List Bk):List (List<|List Key):=B.map λe=>tbK e.2.2
noncomputable def iT(p:Int×Int)(L:List SK)(t:Nat):aLQ:=S45.run L.length (prK L) (hW p L) (cX p) t
theorem StkOk.pr(S:StkOk p L):∀k,k<L.length->1<=prK L k:=λk hk=>(S.st _<|DL.getD_mem (d:=(AR:SK)) hk).2.1
theorem aDP(hp:p∈cG)(S:StkOk p L){row:List Nat}(h:jF L row):∀ws∈S45.tabQ (hW p L) (cX p) row,ws∈cX p:=λws hw=>by obtain⟨q1,q2⟩:=aAS hp (λs hs=>(S.st s hs).1) h;rw[<-q2] at hw;obtain⟨i,hi,rfl⟩:=aX.mp hw;exact DL.getD_mem<|q1.2 i hi
theorem aCP(hp:p∈cG)(S:StkOk p L){row:List Nat}(h:jF L row):(S45.tabQ (hW p L) (cX p) row).length<=64:=by obtain⟨q1,q2⟩:=aAS hp (λs hs=>(S.st s hs).1) h;rw[<-q2];unfold jR;rw[aB,q1.1];exact lU hp
end DL
namespace L2
open PySem PySem.Spec PyProof.Rows
end L2
namespace DL
open PySem PySem.Spec PyProof.Rows L2
theorem aGx(e:Bk):pl (enD e)=true:=by show(true&&(plL (cN e.2.1)&&(plL (e.2.2.map bK)&&true)))=true;rw[(tS e.2.1).1,zJ];rfl
theorem aDT(e:Bk):dep (enD e)<=3:=by have h:=vY e.2.2;show max 0 (max (iY (cN e.2.1)+1)<|max (iY (e.2.2.map bK)+1) 0)+1<=3;rw[(tS e.2.1).2];omega
section
variable {prog:AF}{w:AM}{K:Type}[DecidableEq K]{knd:HeapKind prog w K}{A:BG}{E:BD->BE->Prop}{s:BE}
theorem xO{d a:BF}{xs:List (K×BF×BD)}{k:K}{j:Nat}{p:BF×BD}{Q:Option DictEntry->BE->Prop}(hu:knd.room A)(hkey:knd.is s.heap k a)(hm:s.heap.DictOfH knd d xs)(hj:xs[j]? =some (k,p))
  (hQ:∀h',h'.DictOfH knd d (xs.eraseIdx j)->Heap.SameBut d s.heap h'->Q (some<|entryOfKey knd (k,p)) {s with heap:=h',toks:=s.toks+knd.draws k})
  (hsz:xs.length<=AL):
  AK (AH prog w) A (Builtin.Dict.takeOut d<|.ref a) Q E s:=by
 obtain⟨o,es,ep,ho,hc,hd,he,his,hn⟩:=hm;have hes:es.size<=AL:=by have e:=Av he;omega
 unfold Builtin.Dict.takeOut
 try with_reducible refine Ag ?_
 refine AA<|knd.pyHash hu hkey ?_;refine AA<|wpAny_dictFind_heap (s:={s with toks:=s.toks+knd.draws k}) hu hkey ho hd he his hn (λno=>absurd hj<|no j p) λj' p' hj'=> ?_
 have ej:j'=j:=by obtain⟨i1,e1⟩:=aF.mp hj';obtain⟨i2,e2⟩:=aF.mp hj;refine(fI (i:=j') (j:=j) (h₀:=by rw[aB];exact i1) (h₁:=by rw[aB];exact i2) hn).mp ?_;rw[eA,eA,e1,e2]
 subst ej;rw[hj] at hj';cases hj';refine AA<|Aj (s:={s with toks:=s.toks+knd.draws k}) ho hd ?_;rw[entry_at he j',hj];refine AA (wpAny_updateDictKeys (hz:=hes) (s:={s with toks:=s.toks+knd.draws k}) ho hd<|AB (hQ _ ⟨_,_,ep+1,fM _ ho (Obj.isFreed_of_dict<|Obj.data_mapDictKeys hd _),hc.mapDictKeys _,Obj.data_mapDictKeys hd _, ?_,λx hx=> ?_, ?_⟩<|Heap.SameBut.update ..))
 ·have:(es.eraseIdxIfInBounds j').toList=es.toList.eraseIdx j':=by obtain⟨l⟩:=es;simp
  rw[this,he,qV]
 ·exact knd.keeps (his x<|iL hx) ho hd<|Heap.SameBut.update ..
 ·exact hn.sublist<|(eG _ _).map _
end
section
variable {prog:AF}{w:AM}{K:Type}[DecidableEq K](knd:HeapKind prog w K)(d a:BF)
theorem aAB:
  MeetsIn prog w (Builtin.«dict.pop» ⟨[.ref d, .ref a],[]⟩) (fun A R s=>knd.room A.in1∧∃k xs j p,knd.is s.heap k a∧s.heap.DictOfH knd d xs∧xs.length≤AL∧xs[j]? =some (k,p)∧
   ∀h',h'.DictOfH knd d (xs.eraseIdx j)->Heap.SameBut d s.heap h'->R (.ok (.ret p.2)) {s with heap:=h',toks:=s.toks+knd.draws k}):=
 .of_wp λA R s ⟨hu,k,xs,j,p,hkey,hm,hz,hj,h⟩=>by
  unfold Builtin.«dict.pop»;refine AA ?_;unfold Builtin.Dict.keyAndDefault;refine AA<|Ax hm.typeIs ?_;show AK _ _ (pure (d,Value.ref a,none)) _ _ s;refine AB ?_;have hp:(keyPart<|Value.ref a).isSome=false:=rfl;simp only[hp,bR,if_false];obtain⟨o,es,ep,ho,hc,hd,he,his,hn⟩:=id hm;refine AA<|Aj ho hd (AA<|AB ?_)
  have ne:es.isEmpty=false:=by have e:=Av he;have:=(aF.mp hj).1;rw[Array.isEmpty_eq_false_iff_exists_mem];exact⟨es[0],Array.getElem_mem<|by omega⟩
  simp only[ne,bR,if_false];refine AA<|xO hu hkey hm hj (λh' hm' hs'=> ?_) hz;simp only[Option.isNone_some,bR,if_false];exact AA (wpAny_letGo<|AB ⟨_,rfl,h h' hm' hs'⟩)
end
variable {X:Cx}{pins:List (BF×BI)}{σ:St}{H:Hp}{s:BE}{sts:List BJ}
noncomputable abbrev reB(X:Cx)(B:Hp)(h:∀b o,X.H₀ b=some o->xJ o->B b=some o):Cx:={X with B₀:=B,hB:=h}
theorem aHL{B:Hp}{hb:∀b o,X.H₀ b=some o->xJ o->B b=some o}(I:Inv X pins σ H s):Inv (reB X B hb) pins σ H s:=
 ⟨⟨I.ok.mod,I.ok.kind,I.ok.glob,I.ok.blt,I.ok.above,I.ok.inj,I.ok.has,I.ok.cab,I.ok.hd,I.ok.frames,I.ok.stk,I.ok.exf,I.ok.bs,I.ok.bsz,I.ok.noex,I.ok.exfs,I.ok.funs,I.ok.frf⟩,I.os,I.bare,I.base,I.loc,I.cell,I.free,I.freeC,I.pin,I.hok,I.len⟩
theorem rX{B:Hp}{hb:∀b o,X.H₀ b=some o->xJ o->B b=some o}(I:Inv (reB X B hb) pins σ H s):Inv X pins σ H s:=
 ⟨⟨I.ok.mod,I.ok.kind,I.ok.glob,I.ok.blt,I.ok.above,I.ok.inj,I.ok.has,I.ok.cab,I.ok.hd,I.ok.frames,I.ok.stk,I.ok.exf,I.ok.bs,I.ok.bsz,I.ok.noex,I.ok.exfs,I.ok.funs,I.ok.frf⟩,I.os,I.bare,I.base,I.loc,I.cell,I.free,I.freeC,I.pin,I.hok,I.len⟩
theorem aGS{B:Hp}{hb:∀b o,X.H₀ b=some o->xJ o->B b=some o}{D:rN}(h:wSs (reB X B hb) sts D σ H):wSs X sts D σ H:=λpins s I=>thn (h pins s<|aHL I) λf s' q=>by
 cases f with
 |next=>obtain⟨σ',H',I',q⟩:=q;exact⟨σ',H',rX I',q⟩
 |brk=>obtain⟨σ',H',I',q⟩:=q;exact⟨σ',H',rX I',q⟩
 |cont=>obtain⟨σ',H',I',q⟩:=q;exact⟨σ',H',rX I',q⟩
 |ret u=>obtain⟨v,σ',H',I',r,q⟩:=q;exact⟨v,σ',H',rX I',r,q⟩
structure Lent(K:aA) where
 α:Type
 ad:α->BF
 own:α->List BF
 G:α->V->Hp->Hp->Prop
 hv:∀ {a:α}{v:V}{F H:Hp},G a v F H->v=.ref (ad a)
noncomputable def Lent.sl{K:aA}(Z:Lent K)(a:Z.α):Slot:=.ox (Z.own a)<|Z.G a
variable {K:aA}(Z:Lent K)
noncomputable def spL(n:Nat)(C:Z.α->List D->(Z.α->Prop)->Prop):Sp:=λvs H Q _=>vs.length=n/\∃ (v:V) (us:List V) (F:Hp) (a:Z.α) (ds:List D) (post:Z.α->Prop),vs=v::us/\Same F H/\(∀b,b∉Z.own a->H b=F b)/\Smp H/\fY K F H (Z.sl a) (some v)/\(Z.own a).Nodup/\RepL K F ds us/\C a ds post/\(∀a',post a'->Z.ad a'=Z.ad a)/\
 ∀H',(∃F' a',post a'/\Same F F'/\Same F' H'/\Smp H'/\fY K F' H' (Z.sl a') (some v)/\(Z.own a').Nodup)->Q .non H'
noncomputable def spM(n:Nat)(C:Z.α->List D->(Z.α->Prop)->Prop):Sp:=λvs H Q _=>vs.length=n/\Smp H/\∃ (v:V) (us:List V) (F:Hp) (a:Z.α) (ds:List D) (post:Z.α->Prop),vs=v::us/\Same F H/\fY K F H (Z.sl a) (some v)/\(Z.own a).Nodup/\RepL K F ds us/\C a ds post/\(∀a',post a'->Z.ad a'=Z.ad a)/\
 ∀F' H' a',post a'->Same F F'->Same F' H'->Smp H'->fY K F' H' (Z.sl a') (some v)->(Z.own a').Nodup->(∀b o,b∉Z.own a->H b=some o->H' b=some o)->(∀b o,b∉Z.own a->H b=some o->F b=none->F' b=none/\b∉Z.own a')->Q .non H'
open Classical in
noncomputable def tE(as:List BF)(F H:Hp):Hp:=λb=>if b∈as then H b else F b
open Classical in
noncomputable def jY(as:List BF)(F H:Hp):Hp:=λb=>if b∈as then F b else pU F H b
theorem kX{as:List BF}{F:Hp}:Same F (jY as F H):=λb o e=>by
 unfold jY
 by_cases h:b∈as
 ·rw[if_pos h];exact e
 ·rw[if_neg h];exact oQ _ _ e
theorem pI{as:List BF}{F:Hp}{b:BF}(hb:b∉as)(h:F b=none):jY as F H b=H b:=by unfold jY;rw[if_neg hb];exact pZ h
theorem yI{as:List BF}{F:Hp}{b:BF}(hb:b∈as):tE as F H b=H b:=by unfold tE;rw[if_pos hb]
theorem pF{as:List BF}{F:Hp}{b:BF}(hb:b∉as):tE as F H b=F b:=by unfold tE;rw[if_neg hb]
theorem FnOk.framedL{P:AF}{w:AM}{Z:Lent K}{mg:Str->Option BD}{base:BH}{k n:Nat}{f:BF}{fd:AX}{ps:List Str}{C:Z.α->List D->(Z.α->Prop)->Prop}(G:FnOk P w K mg base CX0 k f fd ps (spL Z n C)):FnOk P w K mg base CX0 k f fd ps (spM Z n C):=by
 have res:∀ {F H:Hp}{a:Z.α}{v:V},Same F H->fY K F H (Z.sl a) (some v)->Same F (tE (Z.own a) F H)/\Same (tE (Z.own a) F H) H/\fY K F (tE (Z.own a) F H) (Z.sl a) (some v):=λ{F H a v} sF so=>by
  obtain⟨v',ev,ow,gg⟩:=so;refine⟨λb o e=> ?_,λb o e=> ?_,v',ev,λb hb=>⟨(ow b hb).1, ?_⟩,λF' H' s k=>gg F' H' s λb hb ob e=>k b hb ob<|by rw[yI hb];exact e⟩
  ·by_cases h:b∈Z.own a
   ·rw[(ow b h).1] at e;cases e
   ·rw[pF h];exact e
  ·by_cases h:b∈Z.own a
   ·rw[yI h] at e;exact e
   ·rw[pF h] at e;exact sF b o e
  ·rw[yI hb];exact(ow b hb).2
 refine⟨λvs H Q E h=> ?_,λA outer s H args us vs Q E hr e0 hb rv h=> ?_⟩
 ·obtain⟨hl,sm,v,us,F,a,ds,post,e,sF,so,nd,rl,c,hp,_⟩:=h;obtain⟨q1,q2,q3⟩:=res sF so;exact G.len vs (tE (Z.own a) F H) (λ_ _=>True) E ⟨hl,v,us,F,a,ds,post,e,q1,λb hb=>pF hb,sm.sub q2,q3,nd,rl,c,hp,λ_ _=>trivial⟩
 ·obtain⟨hl,sm,v,us',F,a,ds,post,ev,sF,so,nd,rl,c,hp,q⟩:=h;obtain⟨q1,sU,q3⟩:=res sF so;obtain⟨_,_,ow,_⟩:=id so;have nU:∀b,b∉Z.own a->F b=none->tE (Z.own a) F H b=none:=λb hbl n=>by rw[pF hbl];exact n
  have e1:aIg P w K mg base A outer s (tE (Z.own a) F H):=⟨e0.frames,e0.mod,λb o e=>⟨(e0.bs b o e).1,sU.free (e0.bs b o e).2⟩,e0.bsz,e0.funs,λb hb=>sU.free<|e0.frf b hb,λb o e=>(e0.hok b o<|sU b o e).smp (sm b o<|sU b o e),e0.bare⟩;refine Az (G.run A outer s (tE (Z.own a) F H) args us vs (λv3 F3=>v3=.non/\∃F' a',post a'/\Same F F'/\Same F' F3/\Smp F3/\fY K F' F3 (Z.sl a') (some v)/\(Z.own a').Nodup) E hr e1 hb rv ⟨hl,v,us',F,a,ds,post,ev,q1,λb hb=>pF hb,sm.sub sU,q3,nd,rl,c,hp,λH' z=>⟨rfl,z⟩⟩) λrr s' hrr=> ?_
  cases rr with
  |error e=>exact hrr
  |ok flw=>
   cases flw with
   |ret u=>
    obtain⟨v3,F3,ho,ha,un,hk,ru,e3,F2,a',pa,s1,s2,sm3,so3,nd3⟩:=hrr;subst e3
    have keepF:∀b o,b∉Z.own a->H b=some o->F b=none->F3 b=none:=λb o hbl e n=>by
     have lt:=e0.hok.lt e;cases g:s.heap.get? b with
     |none=>
      exfalso;have ob:=e0.hok b o e;have z:=sm b o e;cases o with
      |lst xs=>obtain⟨_,_,_,_,g'⟩:=ob;rw[g] at g';cases g'
      |tup xs=>obtain⟨_,_,_,oo,g',_⟩:=ob;rw[g] at g';cases g'
      |dK kvs=>obtain⟨_,_,_,_,oo,_,_,g',_⟩:=ob;rw[g] at g';cases g'
      |frz o2 u2=>obtain⟨g',_⟩:=ob;rw[g] at g';cases g'
      |ext φ=>obtain⟨_,⟨oo,g'⟩,_⟩:=ob;rw[g] at g';cases g'
      |_=>exact z
     |some ob=>exact un.free b ob g (nU b hbl n)<|by simp
    have keepO:∀b o,b∉Z.own a->H b=some o->F b=none->∀ob,s.heap.get? b=some ob->s'.heap.get? b=some ob:=λb o hbl e n ob g=>un.keep b ob g (nU b hbl n) (λhb=>by have:=e0.frf b hb;rw[e] at this;cases this)<|by simp
    have sH:∀b o,b∉Z.own a->H b=some o->jY (Z.own a) F3 H b=some o:=λb o hbl e=>by
     cases g:F b with
     |none=>rw[pI hbl<|keepF b o hbl e g];exact e
     |some o'=>have:=sF b o' g;rw[e] at this;cases this;exact kX _ _ (s2 _ _<|s1 _ _ g)
    have nl:∀ {b:BF}{o:HO},H b=some o->¬ Wr b o->b∉Z.own a:=λe no z=>by obtain⟨_,ob,g,wr⟩:=ow _ z;rw[e] at g;cases g;exact no wr
    have nn:∀ {b:BF},H b=none->b∉Z.own a:=λe z=>by obtain⟨_,ob,g,_⟩:=ow _ z;rw[e] at g;cases g
    have smM:Smp (jY (Z.own a) F3 H):=λb o e=>by
     by_cases hbl:b∈Z.own a
     ·unfold jY at e;rw[if_pos hbl] at e;exact sm3 _ o e
     ·cases g:F3 b with
      |some o'=>have:=kX (as:=Z.own a) (H:=H) b o' g;rw[e] at this;cases this;exact sm3 b o g
      |none=>rw[pI hbl g] at e;exact sm b o e
    have soM:fY K F2 (jY (Z.own a) F3 H) (Z.sl a') (some v):=by obtain⟨v',ev,ow3,gg⟩:=so3;refine⟨v',ev,λb hb=>⟨(ow3 b hb).1, ?_⟩,λF' H' s k=>gg F' H' s λb hb ob e=>k b hb ob<|kX _ _ e⟩;obtain⟨_,ob,g,wr⟩:=ow3 b hb;exact⟨ob,kX _ _ g,wr⟩
    refine⟨.non,jY (Z.own a) F3 H,ho,ha,⟨λb o g n hb hx=>un.keep b o g (sU.free n) hb hx,λb o g n hb hx=>un.slot b o g (sU.free n) hb hx,λb o g n hx=> ?_,un.there,λb xs e=>sH _ _ (nl e λz=>z) e,λb o u e=>sH _ _ (nl e λz=>z) e,λb ps e=>⟨#[],by rw[sH _ _ (nl e λz=>z) e];simp⟩⟩,λb o e=> ?_,ru, ?_⟩
    ·rw[pI (nn n)<|un.free b o g (sU.free n) hx];exact n
    ·have z:=smM b o e
     by_cases hbl:b∈Z.own a
     ·have e':F3 b=some o:=by unfold jY at e;rw[if_pos hbl] at e;exact e
      exact(hk b o e').smp z
     ·cases g:F3 b with
      |some o'=>have:=kX (as:=Z.own a) (H:=H) b o' g;rw[e] at this;cases this;exact(hk b o g).smp z
      |none=>
       rw[pI hbl g] at e
       have n:F b=none:=by
        cases g2:F b with
        |none=>rfl
        |some o2=>rw[s2 _ _<|s1 _ _ g2] at g;cases g
       have st:=(e0.hok b o e).smp (F:=λ_=>none) z
       have:ObjOk P w (fun _=>none) s'.heap b o:=st.stay (fun b2 u hb2 gg=>by
        rcases hb2 with rfl|hb2
        ·exact keepO _ o hbl e n u gg
        ·cases hb2) (λb2 hb2=>nomatch hb2) λb2 xs hb2=>nomatch hb2
       exact this.smp z
    ·refine q F2 (jY (Z.own a) F3 H) a' pa s1 (s2.trans kX) smM soM nd3 sH λb o hbl e n=> ?_
     have n3:=keepF b o hbl e n;refine⟨s2.free n3,λhb=> ?_⟩;obtain⟨_,_,ow3,_⟩:=so3;obtain⟨_,ob,g,_⟩:=ow3 b hb;rw[n3] at g;cases g
   |_=>exact hrr
theorem oI:∀ {sd:List Slot}{i:Nat}{z:Slot},(bV sd).Nodup->sd[i]? =some z->(fU z).Nodup
 |[],_,_,_,e=>by simp at e
 |y::zs,0,z,h,e=>by
  have:y=z:=by simpa using e
  subst this;exact(aY.mp (show(fU y++bV zs).Nodup from h)).1
 |y::zs,i+1,z,h,e=>oI (sd:=zs) (i:=i) (aY.mp (show(fU y++bV zs).Nodup from h)).2.1 (by simpa using e)
structure pD(P:AF)(w:AM)(K:aA)(Z:Lent K)(mg:Str->Option BD)(base:BH)(x:Str)(k n:Nat)(C:Z.α->List D->(Z.α->Prop)->Prop):Prop where
 ex:∃ (f:BF) (fd:AX) (ps:List Str),mg x=some (.ref f)/\eO K (.ref f)=true/\Binds K fd ps []/\FnOk P w K mg base CX0 k f fd ps (spL Z n C)
noncomputable def yH{K:aA}(Z:Lent K)(n:Nat)(a:Z.α)(ds:List D):List Slot:=Z.sl a::(ds.map Slot.val++eW (n-(ds.length+1)) .un)
theorem aHu{P:AF}{w:AM}{Z:Lent K}{mg:Str->Option BD}{base:BH}{x qual:Str}{st:BJ}{f:BF}{fd:AX}{N ps:List Str}{k:Nat}{C:Z.α->List D->(Z.α->Prop)->Prop}(F:Fun K x qual st f fd)(S:jD N ps (bF st))
  (hm:mg x=some (.ref f)) (hb:∀ (kV doc pm:BD) (an:Option BF) (cdv ct:BD) (us:List BD),us.length=ps.length->bindArgs (dI x qual (gL st) (dY st) (bF st) .none kV doc pm an cdv ct) ⟨us,[]⟩=pure (ps.zip us))
  (body:∀ (cdv:BD) (A:BG) (outer:List Env) (s:BE) (H:Hp) (E:XK) (B:Hp) (hB:∀b o,H b=some o→xJ o→B b=some o),Room k (A.deeper (As qual (bF st) s.heap.objs.size f cdv))→∀a ds post,ds.length+1=ps.length→C a ds post→
   PSd (reB (jL CX0 P w K mg base N qual (bF st) f cdv A outer s H E).nox B hB) (yH Z N.length a ds) (dY st) {nx:=λsd'=>∃a',post a'/\sd'[0]? =some (Z.sl a'),rt:=λ_=>False})
  (hw:∀ (a:Z.α) (v:V) (F H:Hp) (b:BF) (o:HO),Z.G a v F H->b∈Z.own a->H b=some o->¬ xJ o):pD P w K Z mg base x (k+1) ps.length C:=by
 refine⟨f,fd,ps,hm,F.kp,F.binds hb,F.ok S (λvs H Q E h=>h.1) λcdv A outer s H vs Q E hr h=> ?_⟩;obtain⟨hl,v,us,F0,a,ds,post,rfl,sF,hH,sm,so,nd,rl,c,hp,q⟩:=h;have hds:ds.length+1=ps.length:=by rw[<-rl.len];exact hl
 have hB:∀b o,H b=some o->xJ o->F0 b=some o:=λb o e no=>by
  by_cases hbl:b∈Z.own a
  ·obtain⟨_,_,_,gg⟩:=so;exact absurd no<|hw a _ F0 H b o (gg F0 H (Same.refl _) λ_ _ _ e=>e) hbl e
  ·rw[<-hH b hbl];exact e
 refine⟨_,pQ,aGS (B:=F0) (hb:=hB) ?_⟩;have hlen:N.length-(us.length+1)=N.length-(ds.length+1):=by rw[rl.len]
 have S0:StF K F0 F0 H (L2.start N (v::us)) (yH Z N.length a ds):=by
  refine⟨Same.refl _,sF,sm, ?_, ?_⟩
  ·unfold L2.start yH;show SlotsOk K F0 _ (_::_) (some v::(us.map some++eW (N.length-(us.length+1)) none));rw[hlen];exact⟨_,_,rfl,so,lJ (m:=0) rl⟩
  ·unfold yH;rw[oA,lQ,bZ];exact nd
 refine(body cdv A outer s _ E F0 hB hr a ds post hds c (L2.start N (v::us)) F0 _ S0).imp ?_ ?_ (λ_ _ ⟨_,_,_,_,z⟩=>z) λ_ _ ⟨_,_,_,_,z⟩=>z
 ·rintro σ' H' ⟨sd',F',S',s',a',pa,hs⟩;obtain⟨o,h1,so'⟩:=S'.slots.get hs;obtain⟨v',rfl,ow',gg⟩:=so';have e1:=Z.hv<|gg F' H' (Same.refl _) λ_ _ _ e=>e;obtain⟨v0,ev,_,g0⟩:=so;cases ev;have e0:=Z.hv<|g0 F0 H (Same.refl _) λ_ _ _ e=>e;have evv:v'=v:=by rw[e1,e0,hp a' pa]
  subst evv;refine q H' ⟨F',a',pa,S'.base,S'.sub,S'.smp,⟨v',rfl,ow',gg⟩, ?_⟩;have nd':=S'.nd;exact oI nd' hs
 ·rintro v' H' ⟨r',ro,e⟩;exact e.elim
variable {sd:List Slot}{c:Expr}{es:List Expr}{pos cp p p2:Pos}{ds:List D}{E:gY}{k n:Nat}{f x:Str}
theorem aCX{Z:Lent X.K}{C:Z.α->List D->(Z.α->Prop)->Prop}{post:Z.α->Prop}{a:Z.α}(i:Nat)(hs:sd[i]? =some (Z.sl a))(hxi:PE X (.Name x p2) (iX i))(G:pD X.prog X.w X.K Z X.mg X.base f k n C)(hr:Room k X.A)(hg:Gl X f)(ha:PAd X sd es (ds.map R.val))(hc:C a ds post)(hp:∀a',post a'->Z.ad a'=Z.ad a)(hn:ds.length+1=n)(hE:∀a',post a'->E.nx (sd.set i<|Z.sl a'))
  (hdb:(f==("__debug__":Str))=false:=by decide) (he:AC (.Name x p2::es) X.env=(false,eval (.Name x p2) X.env)::AC es X.env:=by rfl) (hpl:(Ae cp<|AC es X.env).any (·.1)=false:=by rfl)
  (hsw:AV (.Call (.Name f p) (.Name x p2::es) [] cp) none pos.line X.env=pure false:=by rfl):PSd1 X sd (.Expr (.Call (.Name f p) (.Name x p2::es) [] cp) pos) E:=.mk λσ F H S=>by
 obtain⟨fa,fd,ps,hm,hkp,bd,G⟩:=G.ex;obtain⟨o0,h1,v,h2,_⟩:=S.slots.get hs;refine(nG (aBT (FnOk.framedL G) hr hg hm hkp bd .nil aID (dE hxi xQ he) hdb he hpl) hsw).to ⟨v,by rw[h1,h2],(ha σ F H S).imp λus H1 ⟨F1,S1,s1,q1⟩=> ?_⟩;have rl:=q1.vals;obtain⟨o1,g1,so⟩:=S1.slots.get hs
 have eo:o1=some v:=by rw[h1,h2] at g1;exact(bY.inj g1).symm
 subst eo;refine⟨by rw[bZ,bL,rl.len];exact hn,S1.smp,v,us,F1,a,ds,post,by rw[bZ],S1.sub,so,oI S1.nd hs,rl,hc,hp,λF' H' a' pa s2 s3 sm so' nd kp kf=> ?_⟩;have S2:=S1.le<|fN sd i;have no:∀b,b∈bV (sd.set i .un)->b∉Z.own a:=λb hb z=>gF S1.nd hs (show b∈fU (Z.sl a) from z) hb
 have S3:StF X.K X.B₀ F' H' σ (sd.set i .un):=⟨fun b o e=>s2 _ _ (S1.base _ _ e),s3,sm,S2.slots.mono s2 fun b hb=>by
  obtain⟨n1,ob,e,_⟩:=S2.slots.owns hb
  exact⟨(kf b ob (no b hb) e n1).1,λxs e'=>kp b xs (no b hb) e'⟩,S2.nd⟩
 have S4:=S3.setT i so' nd λb hb hb2=>by obtain⟨n1,ob,e,_⟩:=S2.slots.owns hb2;exact(kf b ob (no b hb2) e n1).2 hb
 rw[gS,jH g1] at S4;exact⟨_,F',S4,s1.trans s2,hE a' pa⟩
theorem aCQ{body:List BJ}(W:Nat->List Slot->Prop)(h0:∃m sd0,Le sd sd0/\W m sd0)
  (hb:∀m sdm,W m sdm->∃t:Bool,PTd X sdm c t/\(t=false->E.nx sdm)/\(t=true->PSd X sdm body {E with nx:=λsd'=>∃m' sd2,m'<m/\Le sd' sd2/\W m' sd2,ct:=λsd'=>∃m' sd2,m'<m/\Le sd' sd2/\W m' sd2,bk:=E.nx}))
  (hp:PassesOwn (AH X.prog X.w) X.A X.env X.xe:=by exact PassesOwn.never):PSd1 X sd (.While c body [] pos) E:=.mk λσ F H S=>
 (aEd hp aFW pQ).to (by
  obtain⟨m0,sd0,le0,q0⟩:=h0;refine⟨λm σ' H'=>∃sdm F',StF X.K X.B₀ F' H' σ' sdm/\Same F F'/\W m sdm,⟨m0,sd0,F,S.le le0,Same.refl _,q0⟩, ?_⟩;rintro m σ' H' ⟨sdm,F',S',s',qm⟩;obtain⟨t,ht,h1,h2⟩:=hb m sdm qm;refine(ht σ' F' H' S').imp λb H1 ⟨eb,F1,S1,s1⟩=> ?_
  subst eb;cases b with
  |false=>exact aFV ⟨sdm,F1,S1,s'.trans s1,h1 rfl⟩
  |true=>
   refine aFU ⟨λσ2 H2=>∃m' sd2 F2,m'<m/\StF X.K X.B₀ F2 H2 σ2 sd2/\Same F F2/\W m' sd2,λσ2 H2 ⟨m',sd2,F2,lt,S2,s2,w2⟩=>⟨m',lt,sd2,F2,S2,s2,w2⟩, ?_⟩;refine(h2 rfl σ' F1 H1 S1).imp ?_ ?_ ?_ ?_
   ·rintro σ4 H4 ⟨sd4,F4,S4,s4,m',sd5,lt,le,q5⟩;exact⟨m',sd5,F4,lt,S4.le le,(s'.trans s1).trans s4,q5⟩
   ·exact λv H4 q=>q
   ·rintro σ4 H4 ⟨sd4,F4,S4,s4,q⟩;exact⟨sd4,F4,S4,(s'.trans s1).trans s4,q⟩
   ·rintro σ4 H4 ⟨sd4,F4,S4,s4,m',sd5,lt,le,q5⟩
    exact⟨m',sd5,F4,lt,S4.le le,(s'.trans s1).trans s4,q5⟩)
theorem yA{P:AF}{w:AM}{h h':BH}{cs:List BF}(x:HOk P w H h)(k:∀b u,b∉cs->h.get? b=some u->h'.get? b=some u)(hn:∀b∈cs,H b=none):HOk P w H h':=λa o e=>
 (x a o e).stay (fun b u hb q=>k b u (fun z=>by
  have n:=hn b z
  rcases hb with rfl|hb
  ·rw[e] at n;cases n
  ·rw[hb] at n
   cases n) q) (λ_ q=>q) λ_ _ q=>q
variable {prog:AF}{w:AM}{A:BG}{d I:BF}{od:BI}{es:Array DictEntry}{ep:Nat}
theorem aKf(hh:A.handled=none)(c:od.data=.dict es ep)(ne:d≠I):Walks prog w A I [I,d] [I] es.size (λi v=>∃u,es[i]? =some u/\v=u.key) (λi h=>h.IsKeyIter I d i es.size ep/\h.get? d=some od) where
 sub:=λb hb=>aR.mpr (.inl<|aD.mp hb)
 frame:=λi h h' st k=>by obtain⟨⟨o,g,q⟩,g2⟩:=st;exact⟨⟨o,k I aE o g,q⟩,k d (by simp) od g2⟩
 item:=λi s Q E hi st q=>aCo st.1 st.2 c hi λh' st' sb=>q _ h' s.toks ⟨es[i],by simp[hi],rfl⟩ ⟨st',(sb.2 d ne).trans st.2⟩ λb o hb g=>(sb.2 b λz=>hb<|by rw[z];exact bI _).trans g
 done:=λs Q E st q=>aEn hh st.1 st.2 c (aO _) λh' eb=>q h' s.toks λb o hb g=>eb b o (λz=>hb<|by rw[z];exact bI _) g
 self:=λi s Q E st q=>wpAny_pyIter_keyiter st.1 q
theorem srcD(sm:(d==AU)=false)(x:od.ExactDict)(c:od.data=.dict es ep):PySem.W.KdlSrc prog w "dict" d d es.size (λi v=>∃u,es[i]? =some u/\v=u.key) (λh=>h.get? d=some od) where
 type:=λs ok=>qA ok x
 there:=λh ok=>⟨aP ok,aP ok⟩
 keep:=λh h' ok k=>k d (.inl rfl) od ok
 notList:=by decide
 notTuple:=by decide
 hint:=λA E s Q ok q=>PySem.W.kdl_hint_dict (qA ok x) q
 iter:=λA s hh ok=>⟨_,_,λE Q q=>aDQ sm ok x c q,aKf hh c (bN<|aP ok),⟨⟨_,bO _ rfl,rfl,rfl⟩,aJ _ ok⟩⟩
section
variable {prog:AF}{w:AM}{A:BG}{I:BF}{fp wr:List BF}{n:Nat}{P:Nat->BD->Prop}{St:Nat->BH->Prop}{J:BH->Prop}{bt:Nat->Nat->Bool}{R:Result->BE->Prop}{S:BF}
def aKV(prog:AF)(w:AM)(A:BG)(J:BH->Prop)(P:Nat->BD->Prop)(bt:Nat->Nat->Bool):Prop:=∀i k x y (t:BE) (Q:BD->BE->Prop) (E:BD->BE->Prop),J t.heap->P i x->P k y->Q (.bool<|bt i k) t->AK (AH prog w) A (richCompare .Lt x y) Q E t
def aGk(cs:List BF)(J:BH->Prop):Prop:=∀h h':BH,J h->(∀b o,b∉cs->h.get? b=some o->h'.get? b=some o)->J h'
noncomputable def two2(v:BD)(c:Nat):BI:={cls:=.type "list",dict:=none,data:=.seq #[v,v] c,slots:= #[]}
theorem aCn(W:Walks prog w A.in1 I fp wr n P St)(ask:aKV prog w A.in1 J P bt)(stay:aGk (S::wr) J)(nS:S∉fp):∀ (k j:Nat) (s:BE) (v0:BD) (c:Nat),n=k+(j+1)->St (j+1) s.heap->P (AZ bt j) v0->J s.heap->s.heap.get? S=some (two2 v0 c)->
  (∀v h' tk,P (AZ bt<|n-1) v->(∀b o,b∉S::wr->s.heap.get? b=some o->h'.get? b=some o)->R (.ok<|.ret v) {s with heap:=h',toks:=tk})->codeAny (AH prog w) A (.builtin "min.loop" ⟨[.ref I,.none,.ref S],[]⟩) R s:=λk=>by
 have nW:S∉wr:=λz=>nS<|W.sub S z
 have nm:(toString "min"++toString ".loop":String)="min.loop":=by decide
 have upO:∀ {h:BH}{f:BI->BI}{b:BF}{o:BI},b∉S::wr->h.get? b=some o->(h.update S f).get? b=some o:=λ{h f b o} hb g=>by rw[cB _ _ (λz=>hb<|by rw[<-z];exact aE)];exact g
 have upF:∀ {h:BH}{f:BI->BI}{i:Nat},St i h->St i (h.update S f):=λ{h f i} st=>W.frame _ _ _ st λb hb o g=>by rw[cB _ _ (show S≠b from λz=>nS<|by rw[z];exact hb)];exact g
 have sub1:∀ {b:BF},b∉S::wr->b∉wr:=λhb z=>hb<|aC _ z
 induction k with
 |zero=>
  intro j s v0 c en st p0 hJ hS fin;have ej:n=j+1:=by omega
  refine Aw F.entry_min_loop ?_;rw[Around.under_plainId F.plain_min_loop];refine AA (m:=seqItems?<|.ref S)<|wpAny_seqItems hS rfl ?_;refine AA (m:=tryCatch (pyNext<|.ref I) _) (wpAny_tryCatch<|W.done s _ _ (by rw[ej];exact st) λh1 tk k1=> ?_);refine AA (m:=updateSeq S λ_=> #[]) (wpAny_updateSeq (k1 S _ nW hS) rfl<|AA (wpAny_letGo<|AB ?_));exact fin v0 _ tk (by rw[ej];exact p0) λb o hb g=>upO hb<|k1 b o (sub1 hb) g
 |succ k ih=>
  intro j s v0 c en st p0 hJ hS fin;refine Aw F.entry_min_loop ?_;rw[Around.under_plainId F.plain_min_loop];refine AA (m:=seqItems?<|.ref S)<|wpAny_seqItems hS rfl ?_;refine AA (m:=tryCatch (pyNext<|.ref I) _) (wpAny_tryCatch<|W.item (j+1) s _ _ (by omega) st λv h1 tk pv st1 k1=> ?_);have hS1:=k1 S _ nW hS;have hJ1:J h1:=stay _ _ hJ λb o hb g=>k1 b o (sub1 hb) g
  refine AA (m:=tryCatch (holding [v,v]<|richCompare .Lt v v0>>=_) _) (wpAny_tryCatch<|Ag (AA<|ask (j+1) (AZ bt j) v v0 ⟨h1,s.gens,s.drawn,tk,s.os⟩ _ _ hJ1 pv p0 ?_));refine AA<|Ag (An<|AA (wpAny_letGo<|AB ?_));have ab:AZ bt (j+1)=if bt (j+1) (AZ bt j) then j+1 else AZ bt j:=rfl
  cases q:bt (j+1) (AZ bt j) with
  |true=>rw[q,if_pos rfl] at ab;simp only[if_true];refine AA<|wpAny_updateSeq hS1 rfl (AA<|wpAny_letGo ?_);rw[nm];refine AB ⟨plainId_quiet F.plain_min_loop _,ih (j+1) _ v _ (by omega) (upF st1) (by rw[ab];exact pv) (stay _ _ hJ1 λb o hb g=>upO hb g) (fM _ hS1 rfl) λv' h2 tk2 p2 k2=> ?_⟩;exact fin v' h2 tk2 p2 λb o hb g=>k2 b o hb (upO hb<|k1 b o (sub1 hb) g)
  |false=>rw[q,if_neg aZ] at ab;simp only[bR,if_false];refine AA<|wpAny_letGo ?_;rw[nm];refine AB ⟨plainId_quiet F.plain_min_loop _,ih (j+1) _ v0 c (by omega) st1 (by rw[ab];exact p0) hJ1 hS1 λv' h2 tk2 p2 k2=> ?_⟩;exact fin v' h2 tk2 p2 λb o hb g=>k2 b o hb<|k1 b o (sub1 hb) g
theorem aAC(W:Walks prog w A.in1 I fp wr n P St)(ask:aKV prog w A.in1 J P bt)(stay:aGk (S::wr) J)(nS:S∉fp)(h0:0<n){s:BE}{c:Nat}(st:St 0 s.heap)(hJ:J s.heap)(hS:s.heap.get? S=some {cls:=.type "list",dict:=none,data:=.seq #[] c,slots:= #[]})
  (fin:∀v h' tk,P (AZ bt<|n-1) v->(∀b o,b∉S::wr->s.heap.get? b=some o->h'.get? b=some o)->R (.ok<|.ret v) {s with heap:=h',toks:=tk}):codeAny (AH prog w) A (.builtin "min.loop" ⟨[.ref I,.none,.ref S],[]⟩) R s:=by
 have nW:S∉wr:=λz=>nS<|W.sub S z
 have nm:(toString "min"++toString ".loop":String)="min.loop":=by decide
 have upO:∀ {h:BH}{f:BI->BI}{b:BF}{o:BI},b∉S::wr->h.get? b=some o->(h.update S f).get? b=some o:=λ{h f b o} hb g=>by rw[cB _ _ (λz=>hb<|by rw[<-z];exact aE)];exact g
 have sub1:∀ {b:BF},b∉S::wr->b∉wr:=λhb z=>hb<|aC _ z
 refine Aw F.entry_min_loop ?_;rw[Around.under_plainId F.plain_min_loop];refine AA (m:=seqItems?<|.ref S)<|wpAny_seqItems hS rfl ?_;refine AA (m:=tryCatch (pyNext<|.ref I) _) (wpAny_tryCatch<|W.item 0 s _ _ h0 st λv h1 tk pv st1 k1=> ?_);have hS1:=k1 S _ nW hS;refine AA (m:=updateSeq S λ_=> #[v,v])<|wpAny_updateSeq hS1 rfl ?_;rw[nm];refine AB ⟨plainId_quiet F.plain_min_loop _,aCn W ask stay nS (n-1) 0 _ v _ (by omega) (W.frame _ _ _ st1 λb hb o g=> ?_) pv (stay _ _ hJ λb o hb g=>upO hb<|k1 b o (sub1 hb) g) (fM _ hS1 rfl) λv' h2 tk2 p2 k2=> ?_⟩
 ·rw[cB _ _ (show S≠b from λz=>nS<|by rw[z];exact hb)];exact g
 ·exact fin v' h2 tk2 p2 λb o hb g=>k2 b o hb (upO hb<|k1 b o (sub1 hb) g)
theorem aCU{E:BD->BE->Prop}{s:BE}{x:BD}{Q:BD->BE->Prop}
  (h:AK (AH prog w) A.in1 (pyIter x) (fun it t=>∃ (I:BF) (fp wr:List BF) (n:Nat) (P:Nat→BD→Prop) (St:Nat→BH→Prop) (J:BH→Prop) (bt:Nat→Nat→Bool),it= .ref I∧Walks prog w A.in1 I fp wr n P St∧St 0 t.heap∧(∀b∈fp,b<t.heap.objs.size)∧0<n∧aKV prog w A.in1 J P bt∧J t.heap∧aGk (t.heap.objs.size::wr) J∧
   ∀v h' tk,P (AZ bt (n-1)) v->(∀b o,b∉wr->t.heap.get? b=some o->h'.get? b=some o)->Q v {t with heap:=h',toks:=tk}) E s):
  AK (AH prog w) A (call (.builtin "min") [x]) Q E s:=by
 have nm:(toString "min"++toString ".loop":String)="min.loop":=by decide
 refine call_function_tree F.kind_min F.plain_min F.entry_min (F.args_min1 _) ?_;refine AA (m:=Builtin.Builtins.bindParams "min" ["key","default"] 0 ⟨[],[]⟩)<|wpAny_of_eq (a:=[none,none]) rfl (AA<|AB ?_);refine AA<|AW h (λit t hx=> ?_) λ_ _ z=>z;obtain⟨I,fp,wr,n,P,St,J,bt,rfl,W,st,hfp,h0,ask,hJ,stay,q⟩:=hx;refine AA<|AT ?_;have nS:t.heap.objs.size∉fp:=λz=>eE _<|hfp _ z
 rw[nm];refine AB ⟨plainId_quiet F.plain_min_loop _,aAC W ask stay nS h0 (W.frame _ _ _ st λb _ o g=>aJ _ g) (stay _ _ hJ λb o _ g=>aJ _ g) (bO _ rfl) λv h' tk pv k=> ?_⟩;refine q v h' tk pv λb o hb g=>k b o (λz=> ?_)<|aJ _ g
 rcases aR.mp z with z|z
 ·exact eE _<|z▸aP g
 ·exact hb z
end
noncomputable def rkA(r:AG->Nat)(xs:Array AG)(i:Nat):Nat:=match xs[i]? with
 |some p=>r p
 |none=>0
def AscR(r:AG->Nat)(xs:Array AG)(l h:Nat):Prop:=∀i j,l<=i->i<j->j<h->rkA r xs i<rkA r xs j
theorem gH{r:AG->Nat}{xs ys:Array AG}{i j:Nat}(h:xs[i]? =ys[j]?):rkA r xs i=rkA r ys j:=by unfold rkA;rw[h]
theorem dF{r:AG->Nat}{xs:Array AG}{i:Nat}(h:i<xs.size):rkA r xs i=r xs[i]:=by unfold rkA;rw[getElem?_pos xs i h]
structure jQ(prog:AF)(w:AM)(A:BG)(E:BD->BE->Prop)(s:BE)(κ:Aq)(r:AG->Nat)(a₀:Array AG):Prop where
 ask:∀ {x y:AG}{st:BK}{Q:Option Bool->BK->Prop},x∈a₀.toList->y∈a₀.toList->kindOf st=κ->Q (some (decide<|r x<r y)) st->wpS (AH prog w) A E s (lt' x y) Q st
 nd:(a₀.toList.map r).Nodup
structure SB(κ:Aq)(a₀:Array AG)(st:BK):Prop where
 perm:(AJ st).Perm a₀
 kind:kindOf st=κ
 failed:failedOf st=none
structure Stp(κ:Aq)(a₀:Array AG)(lo hi:Nat)(st st':BK):Prop where
 sb:SB κ a₀ st'
 pend:AD st'=AD st
 keep:∀k,k<lo\/hi<=k->(AJ st')[k]? =(AJ st)[k]?
variable {E:BD->BE->Prop}{κ:Aq}{r:AG->Nat}{a₀:Array AG}{st st':BK}
theorem SB.size(h:SB κ a₀ st):(AJ st).size=a₀.size:=h.perm.size_eq
theorem SB.mem(h:SB κ a₀ st){i:Nat}(hi:i<(AJ st).size):(AJ st)[i]∈a₀.toList:=(fK.mp h.perm).mem_iff.mp<|by simp
theorem aLi{xs:Array AG}(nd:(xs.toList.map r).Nodup){i j:Nat}(hi:i<xs.size)(hj:j<xs.size)(hij:i≠j):rkA r xs i≠rkA r xs j:=λe=>by
 rw[dF hi,dF hj] at e;have e2:(xs.toList.map r)[i]'(by simpa using hi)=(xs.toList.map r)[j]'(by simpa using hj):=by simpa using e
 exact hij<|(fI nd).mp e2
theorem SB.nd(h:SB κ a₀ st)(K:jQ prog w A E s κ r a₀):((AJ st).toList.map r).Nodup:=(((fK.mp h.perm).map r).nodup_iff).mpr K.nd
theorem SB.ne(h:SB κ a₀ st)(K:jQ prog w A E s κ r a₀){i j:Nat}(hi:i<a₀.size)(hj:j<a₀.size)(hij:i≠j):rkA r (AJ st) i≠rkA r (AJ st) j:=
 aLi (h.nd K) (by rw[h.size];exact hi) (by rw[h.size];exact hj) hij
theorem Stp.refl(h:SB κ a₀ st)(lo hi:Nat):Stp κ a₀ lo hi st st:=⟨h,rfl,λ_ _=>rfl⟩
theorem Stp.trans{lo hi:Nat}{st'':BK}(h:Stp κ a₀ lo hi st st')(h2:Stp κ a₀ lo hi st' st''):Stp κ a₀ lo hi st st'':=⟨h2.sb,h2.pend.trans h.pend,λk hk=>(h2.keep k hk).trans<|h.keep k hk⟩
theorem SB.setArr(h:SB κ a₀ st){xs:Array AG}(hp:xs.Perm (AJ st)):SB κ a₀ (setArr st xs):=⟨hp.trans h.perm,h.kind,h.failed⟩
theorem dN{xs:Array AG}{i:Nat}{Q:AG->BK->Prop}(hi:i<xs.size)(h:Q xs[i] st):wpS (AH prog w) A E s (elem' xs i) Q st:=by rw[elem'_eq,getElem?_pos xs i hi];exact AI h
theorem oV{i j:Nat}{Q:Option Bool->BK->Prop}(K:jQ prog w A E s κ r a₀)(hB:SB κ a₀ st)(hi:i<a₀.size)(hj:j<a₀.size)
  (h:Q (some (decide<|rkA r (AJ st) i<rkA r (AJ st) j)) st):wpS (AH prog w) A E s (ltAt' i j) Q st:=by
 have hi':i<(AJ st).size:=by rw[hB.size];exact hi
 have hj':j<(AJ st).size:=by rw[hB.size];exact hj
 rw[ltAt'_eq];refine AE<|wpS_get ?_;show wpS _ _ _ _ (do let x <-elem' (AJ st) i;let y <-elem' (AJ st) j;lt' x y) Q st;refine AE (dN hi'<|AE (dN hj'<|K.ask (hB.mem hi') (hB.mem hj') hB.kind ?_));rw[dF hi',dF hj'] at h;exact h
theorem vO{xs:Array AG}{i j:Nat}(hj:j<=xs.size)(k:Nat):
  rkA r (mirror xs i j<|(j-i) / 2) k=if i<=k/\k<j then rkA r xs (i+j-1-k) else rkA r xs k:=by
 have e:=getElem?_mirror_all (i:=i) hj k
 by_cases h1:i<=k/\k<j
 ·rw[if_pos h1] at e ⊢;exact gH e
 ·rw[if_neg h1] at e ⊢;exact gH e
theorem vK{xs:Array AG}{src d:Nat}(hs:src<xs.size)(hd:d<=src)(k:Nat):
  rkA r (bubble xs src d) k=if k=src-d then rkA r xs src else if src-d<k/\k<=src then rkA r xs (k-1) else rkA r xs k:=by
 have e:=getElem?_bubble hs d hd k
 by_cases h1:k=src-d
 ·rw[if_pos h1] at e ⊢;exact gH e
 ·rw[if_neg h1] at e ⊢
  by_cases h2:src-d<k/\k<=src
  ·rw[if_pos h2] at e ⊢;exact gH e
  ·rw[if_neg h2] at e ⊢;exact gH e
theorem AscR.snoc{xs:Array AG}{l h:Nat}(a:AscR r xs l h)(lt:l<h)(q:rkA r xs (h-1)<rkA r xs h):AscR r xs l (h+1):=λi j hi hij hj=>by
 by_cases e:j=h
 ·subst e
  by_cases e2:i=j-1
  ·rw[e2];exact q
  ·exact mU (a i (j-1) hi (by omega)<|by omega) q
 ·exact a i j hi hij<|by omega
theorem aCb{lo a nrem:Nat}{Q:Option (Option Nat)×Nat->BK->Prop}(K:jQ prog w A E s κ r a₀)(hB:SB κ a₀ st)(ha:1<=a)(han:a<=nrem)(hn:lo+nrem<=a₀.size)(hs:AscR r (AJ st) lo (lo+a))
  (h:∀m,a<=m->m<=nrem->AscR r (AJ st) lo (lo+m)->(m<nrem->rkA r (AJ st) (lo+m)<rkA r (AJ st) (lo+m-1))->Q (none,m) st):
  wpS (AH prog w) A E s (forIn [a:nrem] ((none,a):Option (Option Nat) × Nat) fun _ __s=>do
   let __x <-ltAt' (lo+__s.snd) (lo+__s.snd-1)
   match __x with
   |some smaller=>if smaller=true then pure (ForInStep.done (none,__s.snd)) else pure (ForInStep.yield (none,__s.snd+1))
   |_=>pure (ForInStep.done (some none,__s.snd))) Q st:=by
 refine AS (I:=λx c st'=>st'=st/\c=(none,x)/\AscR r (AJ st) lo (lo+x)) ?_ ?_ ⟨rfl,rfl,hs⟩
 ·rintro x c st' hx hxn ⟨rfl,rfl,hs'⟩;dsimp only;refine AE (oV K hB (by omega) (by omega) ?_)
  by_cases q:rkA r (AJ st') (lo+x)<rkA r (AJ st') (lo+x-1)
  ·simp only[q,decide_true,if_true];exact AI<|h x hx (by omega) hs' λ_=>q
  ·simp only[q,decide_false,bR,if_false];refine AI ⟨rfl,rfl, ?_⟩;have ne:=hB.ne K (i:=lo+x) (j:=lo+x-1) (by omega) (by omega) (by omega);exact hs'.snoc (by omega)<|by omega
 ·rintro c st' ⟨rfl,rfl,hs'⟩;rw[show max a nrem=nrem by omega] at hs' ⊢;exact h nrem han (aO _) hs' λz=>absurd z<|eE _
def DscR(r:AG->Nat)(xs:Array AG)(l h:Nat):Prop:=∀i j,l<=i->i<j->j<h->rkA r xs j<rkA r xs i
theorem DscR.snoc{xs:Array AG}{l h:Nat}(a:DscR r xs l h)(lt:l<h)(q:rkA r xs h<rkA r xs (h-1)):DscR r xs l (h+1):=λi j hi hij hj=>by
 by_cases e:j=h
 ·subst e
  by_cases e2:i=j-1
  ·rw[e2];exact q
  ·exact mU q (a i (j-1) hi (by omega)<|by omega)
 ·exact a i j hi hij<|by omega
theorem aAq{lo nrem:Nat}{Q:Option Nat->BK->Prop}(K:jQ prog w A E s κ r a₀)(hB:SB κ a₀ st)(h1:1<=nrem)(hn:lo+nrem<=a₀.size)
  (h:∀m st',1<=m->m<=nrem->Stp κ a₀ lo (lo+nrem) st st'->AscR r (AJ st') lo (lo+m)->Q (some m) st'):wpS (AH prog w) A E s (countRun' lo nrem) Q st:=by
 rw[countRun'_eq];refine AE<|aCb K hB (aO 1) h1 hn (λi j h1 h2 h3=>by omega) λm hm1 hm2 hs hq=> ?_;dsimp only
 by_cases e:m=nrem
 ·rw[if_pos<|by simpa using e];exact AI<|h m st hm1 hm2 (.refl hB _ _) hs
 ·rw[if_neg<|by simpa using e]
  by_cases m1:m>1
  ·rw[if_pos m1];refine AE<|oV K hB (by omega) (by omega) ?_;rw[decide_eq_true (hs lo (lo+m-1) (aO _) (by omega)<|by omega)];dsimp only;rw[if_pos rfl];exact AI<|h m st hm1 hm2 (.refl hB _ _) hs
  ·rw[if_neg m1];have em:m=1:=by omega
   subst em;have hq:=hq (by omega);refine AE (wpS_lift<|At ⟨rfl, ?_⟩);refine AE<|AY (AS (I:=λx c st'=>st'=st/\c=(none,x,0)/\DscR r (AJ st) lo (lo+x)) (Q:=λc st'=>st'=st/\∃m,c=(none,m,0)/\2<=m/\m<=nrem/\DscR r (AJ st) lo (lo+m)) ?step ?fin ⟨rfl,rfl, ?init⟩) ?post
   case init=>
    intro i j h1 h2 h3;have e1:i=lo:=by omega
    have e2:j=lo+1:=by omega
    subst e1 e2;exact hq
   case step=>
    rintro x c st' hx hxn ⟨rfl,rfl,hs'⟩;dsimp only;refine AE<|oV K hB (by omega) (by omega) ?_
    by_cases q:rkA r (AJ st') (lo+x)<rkA r (AJ st') (lo+x-1)
    ·simp only[q,decide_true,if_true];rw[if_neg<|by omega];exact AI ⟨rfl,rfl,hs'.snoc (by omega) q⟩
    ·simp only[q,decide_false,bR,if_false];refine AE<|oV K hB (by omega) (by omega) ?_;have ne:=hB.ne K (i:=lo+x) (j:=lo+x-1) (by omega) (by omega) (by omega);rw[decide_eq_true (show rkA r (AJ st') (lo+x-1)<rkA r (AJ st') (lo+x) by omega)];dsimp only;rw[if_pos rfl];exact AI ⟨rfl,x,rfl,hx,by omega,hs'⟩
   case fin=>rintro c st' ⟨rfl,rfl,hs'⟩;rw[show max (1+1) nrem=nrem by omega] at hs' ⊢;exact⟨rfl,nrem,rfl,by omega,aO _,hs'⟩
   case post=>
    rintro c st' ⟨rfl,m,rfl,m2,mn,hd⟩;dsimp only;rw[if_neg<|by omega,reverseSlice'_eq];refine AE<|Au ?_;have hz:lo+m<=(AJ st').size:=by rw[hB.size];omega
    have S:Stp κ a₀ lo (lo+nrem) st' (setArr st' (mirror (AJ st') lo (lo+m)<|(lo+m-lo) / 2)):=by refine⟨hB.setArr<|mirror_perm _ _ _ _,rfl,λk hk=> ?_⟩;show(mirror (AJ st') lo (lo+m)<|(lo+m-lo) / 2)[k]? =_;rw[getElem?_mirror_all hz,if_neg<|by omega]
    refine AE<|aCb K S.sb (by omega) mn hn (λi j h1 h2 h3=> ?_) λm' a1 a2 a3 _=> ?_
    ·show rkA r (mirror (AJ st') lo (lo+m)<|(lo+m-lo) / 2) i<rkA r (mirror (AJ st') lo (lo+m)<|(lo+m-lo) / 2) j;rw[vO hz,vO hz,if_pos<|by omega,if_pos<|by omega];exact hd _ _ (by omega) (by omega)<|by omega
    ·exact AI<|h m' _ (by omega) a2 S a3
theorem aEo{lo ok:Nat}{Q:Bool->BK->Prop}(K:jQ prog w A E s κ r a₀)(hB:SB κ a₀ st)(hn:lo+n<=a₀.size)(hok:ok<=n)(hs:AscR r (AJ st) lo (lo+ok))
  (h:∀st',Stp κ a₀ lo (lo+n) st st'->AscR r (AJ st') lo (lo+n)->Q true st'):wpS (AH prog w) A E s (binarySort' lo n ok) Q st:=by
 rw[binarySort'_eq]
 refine AE (AY (AS (I:=fun k c st'=>c=(none,())∧Stp κ a₀ lo (lo+n) st st'∧AscR r (AJ st') lo (lo+min k n))
  (Q:=λc st'=>c=(none,())/\Stp κ a₀ lo (lo+n) st st'/\AscR r (AJ st') lo (lo+n)) ?step ?fin ?init) ?post)
 case post=>rintro c st' ⟨rfl,S,hs'⟩;exact AI<|h st' S hs'
 case init=>refine⟨rfl,.refl hB _ _,λi j hi hij hj=> ?_⟩;exact hs i j hi hij<|by omega
 case fin=>
  rintro c st' ⟨hc,S,hs'⟩;refine⟨hc,S, ?_⟩
  rwa[show min (max (max ok 1) n) n=n by omega] at hs'
 case step=>
  rintro k c st' hak hkn ⟨rfl,S,hs'⟩;rw[show min k n=k by omega] at hs';have hB':=S.sb;have hk:lo+k<a₀.size:=by omega
  refine AE (AY (AS (I:=fun x c st''=>st''=st'∧∃l r',c=(none,l,r')∧l≤r'∧r'≤k∧r' - l≤k - x∧
    (∀i,i<l->rkA r (AJ st') (lo+i)<rkA r (AJ st') (lo+k))/\(∀i,r'<=i->i<k->rkA r (AJ st') (lo+k)<rkA r (AJ st') (lo+i)))
   (Q:=fun c st''=>st''=st'∧∃l r',c=(none,l,r')∧l≤k∧
    (∀i,i<l->rkA r (AJ st') (lo+i)<rkA r (AJ st') (lo+k))/\(∀i,l<=i->i<k->rkA r (AJ st') (lo+k)<rkA r (AJ st') (lo+i))) ?istep ?ifin ?iinit) ?ipost)
  case iinit=>exact⟨rfl,0,k,rfl,by omega,by omega,by omega,λi hi=>by omega,λi h1 h2=>by omega⟩
  case ifin=>
   rintro c st'' ⟨rfl,l,r',rfl,hlr,hrk,hm,hlo,hhi⟩;have:l=r':=by omega
   subst this;exact⟨rfl,l,l,rfl,hrk,hlo,hhi⟩
  case istep=>
   rintro x c st'' _ hxk ⟨rfl,l,r',rfl,hlr,hrk,hm,hlo,hhi⟩;dsimp only
   by_cases hge:l>=r'
   ·rw[if_pos hge];have:l=r':=by omega
    subst this;exact AI ⟨rfl,l,l,rfl,hrk,hlo,hhi⟩
   ·rw[if_neg hge];refine AE (oV K hB' hk (by omega) ?_)
    by_cases hless:rkA r (AJ st'') (lo+k)<rkA r (AJ st'') (lo+(l+r') / 2)
    ·simp only[hless,decide_true,if_true];refine AI ⟨rfl,l,(l+r') / 2,rfl,by omega,by omega,by omega,hlo,λi h1 h2=> ?_⟩
     by_cases e:i=(l+r') / 2
     ·rw[e];exact hless
     ·exact mU hless (hs' _ _ (by omega) (by omega)<|by omega)
    ·simp only[hless,decide_false,bR,if_false];have ne:=hB'.ne K (i:=lo+k) (j:=lo+(l+r') / 2) hk (by omega) (by omega);have hl:rkA r (AJ st'') (lo+(l+r') / 2)<rkA r (AJ st'') (lo+k):=by omega
     refine AI ⟨rfl,(l+r') / 2+1,r',rfl,by omega,by omega,by omega,λi h1=> ?_,hhi⟩
     by_cases e:i=(l+r') / 2
     ·rw[e];exact hl
     ·exact mU (hs' _ _ (by omega) (by omega)<|by omega) hl
  case ipost=>
   rintro c st'' ⟨rfl,l,r',rfl,hlk,hlo,hhi⟩;show wpS _ _ _ _ (do moveDown' (lo+k) (lo+l);pure (ForInStep.yield (none,()))) _ _;rw[moveDown'_eq];have hks:lo+k<(AJ st'').size:=by rw[hB'.size];exact hk
   have ed:lo+k-(lo+l)=k-l:=by omega
   rw[ed];refine AE (Au<|AI ⟨rfl,S.trans ⟨hB'.setArr<|bubble_perm _ _ _,rfl,λi hi=> ?_⟩, ?_⟩)
   ·show(bubble (AJ st'') (lo+k)<|k-l)[i]? =_;rw[getElem?_bubble hks _<|by omega,if_neg<|by omega,if_neg<|by omega]
   rw[show min (k+1) n=k+1 by omega];intro i j hi hij hj;show rkA r (bubble (AJ st'') (lo+k)<|k-l) i<rkA r (bubble (AJ st'') (lo+k)<|k-l) j;rw[vK hks<|by omega,vK hks<|by omega,show lo+k-(k-l)=lo+l by omega]
   have hlo':∀i,lo<=i->i<lo+l->rkA r (AJ st'') i<rkA r (AJ st'') (lo+k):=λi a b=>by
    have:=hlo (i-lo)<|by omega
    rwa[show lo+(i-lo)=i by omega] at this
   have hhi':∀i,lo+l<=i->i<lo+k->rkA r (AJ st'') (lo+k)<rkA r (AJ st'') i:=λi a b=>by
    have:=hhi (i-lo) (by omega)<|by omega
    rwa[show lo+(i-lo)=i by omega] at this
   repeat' split
   all_goals first
    |(exfalso;omega)
    |exact hlo' _ (by omega) (by omega)
    |exact hhi' _ (by omega) (by omega)
    |exact hs' _ _ (by omega) (by omega) (by omega)
noncomputable def kF:Bool->AG->Array AG->Nat->Nat->Nat->StateT BK Sem (Option Nat):=sortPriv%PySem.Builtin.gallop
noncomputable def bey(left:Bool)(key:AG)(arr:Array AG)(base i:Nat):StateT BK Sem (Option Bool):=do
  let x <-elem' arr (base+i)
  if left then lt' x key else return (<-lt' key x).map (!·)
theorem aAD(left:Bool)(key:AG)(arr:Array AG)(base n hint:Nat):kF left key arr base n hint=(do
 let mut lastofs:=0
 let mut ofs:=1
 let mut lo:=0
 let mut hi:=0
 let some right <-bey left key arr base hint|return none
 if right then
  let maxofs:=n-hint
  for _ in[0:n] do
   if ofs>=maxofs then break
   let some more <-bey left key arr base (hint+ofs)|return none
   if !more then break
   lastofs:=ofs
   ofs:=2*ofs+1
  lo:=hint+lastofs+1
  hi:=hint+min ofs maxofs
 else
  let maxofs:=hint+1
  for _ in[0:n] do
   if ofs>=maxofs then break
   let some found <-bey left key arr base (hint-ofs)|return none
   if found then break
   lastofs:=ofs
   ofs:=2*ofs+1
  lo:=hint+1-min ofs maxofs
  hi:=hint-lastofs
 for _ in[0:n] do
  if lo>=hi then break
  let m:=lo+(hi-lo) / 2
  let some more <-bey left key arr base m|return none
  if more then lo:=m+1 else hi:=m
 return some hi):=rfl
theorem pK{left:Bool}{key:AG}{xs:Array AG}{base i:Nat}{Q:Option Bool->BK->Prop}(K:jQ prog w A E s κ r a₀)(hk:kindOf st=κ)(mx:∀x∈xs.toList,x∈a₀.toList)(mk:key∈a₀.toList)(hi:base+i<xs.size)(ne:rkA r xs (base+i)≠r key)
  (h:Q (some (decide<|rkA r xs (base+i)<r key)) st):wpS (AH prog w) A E s (bey left key xs base i) Q st:=by
 unfold bey;refine AE<|dN hi ?_;have m1:xs[base+i]∈a₀.toList:=mx _ (by simp);rw[dF hi] at h ne;cases left with
 |true=>exact K.ask m1 mk hk h
 |false=>
  refine AE (K.ask mk m1 hk<|AI ?_)
  have e:(!decide (r key<r xs[base+i]))=decide (r xs[base+i]<r key):=by
   by_cases q:r xs[base+i]<r key
   ·rw[decide_eq_true q,decide_eq_false<|by omega];rfl
   ·rw[decide_eq_false q,decide_eq_true<|by omega];rfl
  show Q (some<|!decide (r key<r xs[base+i])) st;rw[e];exact h
theorem AscR.le{xs:Array AG}{base:Nat}(a:AscR r xs base (base+n)){i j:Nat}(hij:i<=j)(hj:j<n):rkA r xs (base+i)<=rkA r xs (base+j):=by
 by_cases e:i=j
 ·rw[e];exact aO _
 ·exact dC (a _ _ (by omega) (by omega)<|by omega)
theorem nI{left:Bool}{key:AG}{xs:Array AG}{base hint:Nat}{Q:Option Nat->BK->Prop}(K:jQ prog w A E s κ r a₀)(hk:kindOf st=κ)(mx:∀x∈xs.toList,x∈a₀.toList)(mk:key∈a₀.toList)(hx:base+n<=xs.size)(hh:hint<n)
  (asc:AscR r xs base (base+n)) (ne:∀i,i<n->rkA r xs (base+i)≠r key)
  (h:∀k,k<=n->(∀i,i<k->rkA r xs (base+i)<r key)->(∀i,k<=i->i<n->r key<rkA r xs (base+i))->Q (some k) st):wpS (AH prog w) A E s (kF left key xs base n hint) Q st:=by
 rw[aAD];refine AE<|pK K hk mx mk (by omega) (ne _ hh) ?_
 by_cases q:rkA r xs (base+hint)<r key
 ·simp only[q,decide_true,if_true]
  refine AE (AY (AS (I:=fun x c st'=>st'=st∧∃last ofs,c=(none,last,ofs)∧last<ofs∧x+1≤ofs∧hint+last<n∧rkA r xs (base+(hint+last))<r key)
   (Q:=λc st'=>st'=st/\∃last ofs,c=(none,last,ofs)/\last<ofs/\hint+last<n/\rkA r xs (base+(hint+last))<r key/\(n-hint<=ofs\/(hint+ofs<n/\r key<rkA r xs (base+(hint+ofs))))) ?step ?fin ⟨rfl,0,1,rfl,by omega,by omega,hh,q⟩) ?post)
  case fin=>rintro c st' ⟨rfl,last,ofs,rfl,a,b,c,d⟩;exact⟨rfl,last,ofs,rfl,a,c,d,.inl<|by omega⟩
  case step=>
   rintro x c st' _ hxn ⟨rfl,last,ofs,rfl,a,b,c,d⟩;dsimp only
   by_cases z:ofs>=n-hint
   ·rw[if_pos z];exact AI ⟨rfl,last,ofs,rfl,a,c,d,.inl z⟩
   ·rw[if_neg z];refine AE (pK K hk mx mk (by omega) (ne _<|by omega) ?_)
    by_cases y:rkA r xs (base+(hint+ofs))<r key
    ·simp only[y,decide_true,Bool.not_true,bR,if_false];exact AI ⟨rfl,ofs,2*ofs+1,rfl,by omega,by omega,by omega,y⟩
    ·simp only[y,decide_false,Bool.not_false,if_true];have y':=ne (hint+ofs) (by omega);exact AI ⟨rfl,last,ofs,rfl,a,c,d,.inr ⟨by omega,by omega⟩⟩
  case post=>
   rintro c st' ⟨rfl,last,ofs,rfl,a,b,c,d⟩;dsimp only;have l1:hint+last+1<=hint+min ofs (n-hint):=by omega
   have l2:hint+min ofs (n-hint)<=n:=by omega
   have hl:∀i,i<hint+last+1->rkA r xs (base+i)<r key:=λi hi=>cI (asc.le (by omega) b) c
   have hg:∀i,hint+min ofs (n-hint)<=i->i<n->r key<rkA r xs (base+i):=λi h1 h2=>by
    rcases d with d|⟨d1,d2⟩
    ·omega
    ·exact aQ d2<|asc.le (by omega) h2
   refine AE (AY (AS (I:=fun x c st''=>st''=st'∧∃lo hi,c=(none,lo,hi)∧lo≤hi∧hi≤n∧hi - lo≤n - x∧(∀i,i<lo→rkA r xs (base+i)<r key)∧(∀i,hi≤i→i<n→r key<rkA r xs (base+i)))
    (Q:=λc st''=>st''=st'/\∃k,c=(none,k,k)/\k<=n/\(∀i,i<k->rkA r xs (base+i)<r key)/\(∀i,k<=i->i<n->r key<rkA r xs (base+i))) ?step ?fin ⟨rfl,_,_,rfl,l1,l2,by omega,hl,hg⟩) ?post)
   case post=>rintro c st'' ⟨rfl,k,rfl,a,b,c⟩;exact AI<|h k a b c
   case fin=>
    rintro c st'' ⟨rfl,lo,hi,rfl,a,b,c,d,e⟩;have:lo=hi:=by omega
    subst this;exact⟨rfl,lo,rfl,b,d,e⟩
   case step=>
    rintro x c st'' _ hxn ⟨rfl,lo,hi,rfl,a,b,c,d,e⟩;dsimp only
    by_cases q:lo>=hi
    ·rw[if_pos q];have:lo=hi:=by omega
     subst this;exact AI ⟨rfl,lo,rfl,b,d,e⟩
    ·rw[if_neg q];refine AE (pK K hk mx mk (by omega) (ne _<|by omega) ?_)
     by_cases z:rkA r xs (base+(lo+(hi-lo) / 2))<r key
     ·simp only[z,decide_true,if_true];refine AI ⟨rfl,lo+(hi-lo) / 2+1,hi,rfl,by omega,b,by omega,λi hi'=> ?_,e⟩;exact cI (asc.le (by omega)<|by omega) z
     ·simp only[z,decide_false,bR,if_false];have z':=ne (lo+(hi-lo) / 2) (by omega);refine AI ⟨rfl,lo,lo+(hi-lo) / 2,rfl,by omega,by omega,by omega,d,λi h1 h2=> ?_⟩;exact aQ (by omega)<|asc.le h1 h2
 ·simp only[q,decide_false,bR,if_false];have q':=ne hint hh
  refine AE (AY (AS (I:=fun x c st'=>st'=st∧∃last ofs,c=(none,last,ofs)∧last<ofs∧x+1≤ofs∧last≤hint∧r key<rkA r xs (base+(hint - last)))
   (Q:=λc st'=>st'=st/\∃last ofs,c=(none,last,ofs)/\last<ofs/\last<=hint/\r key<rkA r xs (base+(hint-last))/\(hint+1<=ofs\/(ofs<=hint/\rkA r xs (base+(hint-ofs))<r key))) ?step ?fin ⟨rfl,0,1,rfl,by omega,by omega,by omega,by rw[Nat.sub_zero];omega⟩) ?post)
  case fin=>rintro c st' ⟨rfl,last,ofs,rfl,a,b,c,d⟩;exact⟨rfl,last,ofs,rfl,a,c,d,.inl<|by omega⟩
  case step=>
   rintro x c st' _ hxn ⟨rfl,last,ofs,rfl,a,b,c,d⟩;dsimp only
   by_cases z:ofs>=hint+1
   ·rw[if_pos z];exact AI ⟨rfl,last,ofs,rfl,a,c,d,.inl z⟩
   ·rw[if_neg z];refine AE (pK K hk mx mk (by omega) (ne _<|by omega) ?_)
    by_cases y:rkA r xs (base+(hint-ofs))<r key
    ·simp only[y,decide_true,if_true];exact AI ⟨rfl,last,ofs,rfl,a,c,d,.inr ⟨by omega,y⟩⟩
    ·simp only[y,decide_false,bR,if_false];have y':=ne (hint-ofs) (by omega);exact AI ⟨rfl,ofs,2*ofs+1,rfl,by omega,by omega,by omega,by omega⟩
  case post=>
   rintro c st' ⟨rfl,last,ofs,rfl,a,b,c,d⟩;dsimp only;have l1:hint+1-min ofs (hint+1)<=hint-last:=by omega
   have l2:hint-last<=n:=by omega
   have hl:∀i,i<hint+1-min ofs (hint+1)->rkA r xs (base+i)<r key:=λi hi=>by
    rcases d with d|⟨d1,d2⟩
    ·omega
    ·exact cI (asc.le (by omega)<|by omega) d2
   have hg:∀i,hint-last<=i->i<n->r key<rkA r xs (base+i):=λi h1 h2=>aQ c<|asc.le (by omega) h2
   refine AE (AY (AS (I:=fun x c st''=>st''=st'∧∃lo hi,c=(none,lo,hi)∧lo≤hi∧hi≤n∧hi - lo≤n - x∧(∀i,i<lo→rkA r xs (base+i)<r key)∧(∀i,hi≤i→i<n→r key<rkA r xs (base+i)))
    (Q:=λc st''=>st''=st'/\∃k,c=(none,k,k)/\k<=n/\(∀i,i<k->rkA r xs (base+i)<r key)/\(∀i,k<=i->i<n->r key<rkA r xs (base+i))) ?step ?fin ⟨rfl,_,_,rfl,l1,l2,by omega,hl,hg⟩) ?post)
   case post=>rintro c st'' ⟨rfl,k,rfl,a,b,c⟩;exact AI<|h k a b c
   case fin=>
    rintro c st'' ⟨rfl,lo,hi,rfl,a,b,c,d,e⟩;have:lo=hi:=by omega
    subst this;exact⟨rfl,lo,rfl,b,d,e⟩
   case step=>
    rintro x c st'' _ hxn ⟨rfl,lo,hi,rfl,a,b,c,d,e⟩;dsimp only
    by_cases q:lo>=hi
    ·rw[if_pos q];have:lo=hi:=by omega
     subst this;exact AI ⟨rfl,lo,rfl,b,d,e⟩
    ·rw[if_neg q];refine AE (pK K hk mx mk (by omega) (ne _<|by omega) ?_)
     by_cases z:rkA r xs (base+(lo+(hi-lo) / 2))<r key
     ·simp only[z,decide_true,if_true];refine AI ⟨rfl,lo+(hi-lo) / 2+1,hi,rfl,by omega,b,by omega,λi hi'=> ?_,e⟩;exact cI (asc.le (by omega)<|by omega) z
     ·simp only[z,decide_false,bR,if_false];have z':=ne (lo+(hi-lo) / 2) (by omega);refine AI ⟨rfl,lo,lo+(hi-lo) / 2,rfl,by omega,by omega,by omega,d,λi h1 h2=> ?_⟩;exact aQ (by omega)<|asc.le h1 h2
structure MS(r:AG->Nat)(a b:Array AG)(out:List AG)(ia ib:Nat):Prop where
 ha:ia<=a.size
 hb:ib<=b.size
 perm:out.Perm (a.toList.take ia++b.toList.take ib)
 asc:(out.map r).Pairwise (·<·)
 la:∀x∈out,∀i,ia<=i->i<a.size->r x<rkA r a i
 lb:∀x∈out,∀i,ib<=i->i<b.size->r x<rkA r b i
def MD(r:AG->Nat)(a b:Array AG)(out:List AG):Prop:=out.Perm (a.toList++b.toList)/\(out.map r).Pairwise (·<·)
variable {a b:Array AG}{out:List AG}{ia ib:Nat}
theorem MS.swap(m:MS r a b out ia ib):MS r b a out ib ia:=⟨m.hb,m.ha,m.perm.trans gO,m.asc,m.lb,m.la⟩
theorem MS.pushA(m:MS r a b out ia ib)(h:ia<a.size)(asa:AscR r a 0 a.size)(hb:∀j,ib<=j->j<b.size->rkA r a ia<rkA r b j):MS r a b (out++[a[ia]]) (ia+1) ib:=by
 refine⟨h,m.hb, ?_, ?_,λx hx i h1 h2=> ?_,λx hx i h1 h2=> ?_⟩
 ·have e:a.toList.take (ia+1)=a.toList.take ia++[a[ia]]:=by rw[eX];simp[h]
  rw[e,dL];refine(m.perm.append_right _).trans ?_;rw[dL];exact List.Perm.append_left _ gO
 ·rw[aU,jO];refine⟨m.asc,iU _ _,λx hx y hy=> ?_⟩;obtain⟨z,hz,rfl⟩:=aX.mp hx;have:y=r a[ia]:=by simpa using hy
  rw[this,<-dF (r:=r) h];exact m.la z hz ia (aO _) h
 ·rcases aK.mp hx with hx|hx
  ·exact m.la x hx i (by omega) h2
  ·rw[aD.mp hx,<-dF (r:=r) h];exact asa ia i (bJ _) (by omega) h2
 ·rcases aK.mp hx with hx|hx
  ·exact m.lb x hx i h1 h2
  ·rw[aD.mp hx,<-dF (r:=r) h];exact hb i h1 h2
theorem MS.pushB(m:MS r a b out ia ib)(h:ib<b.size)(asb:AscR r b 0 b.size)(hb:∀j,ia<=j->j<a.size->rkA r b ib<rkA r a j):MS r a b (out++[b[ib]]) ia (ib+1):=(m.swap.pushA h asb hb).swap
theorem aEj(h:ia+k<a.size):(a.extract ia<|ia+(k+1)).toList=(a.extract ia<|ia+k).toList++[a[ia+k]]:=by simp only[cY,cF];rw[show ia+(k+1)-ia=k+1 by omega,show ia+k-ia=k by omega,eX];simp[h]
theorem aEJ(i:Nat):(a.extract i<|i+0).toList=[]:=by simp[cY,cF]
theorem MS.extA(asa:AscR r a 0 a.size)(m:MS r a b out ia ib):∀k,ia+k<=a.size->(∀i,i<k->∀j,ib<=j->j<b.size->rkA r a (ia+i)<rkA r b j)->MS r a b (out++(a.extract ia<|ia+k).toList) (ia+k) ib
 |0,_,_=>by rw[aEJ,bZ];exact m
 |k+1,h,hb=>by
  have ih:=MS.extA asa m k (by omega) λi hi=>hb i<|by omega
  rw[aEj<|by omega,<-dL];exact ih.pushA (by omega) asa (hb k<|by omega)
theorem MS.extB(asb:AscR r b 0 b.size)(m:MS r a b out ia ib)(k:Nat)(h:ib+k<=b.size)(hb:∀i,i<k->∀j,ia<=j->j<a.size->rkA r b (ib+i)<rkA r a j):MS r a b (out++(b.extract ib<|ib+k).toList) ia (ib+k):=(m.swap.extA asb k h hb).swap
theorem MS.done(m:MS r a b out a.size b.size):MD r a b out:=by refine⟨?_,m.asc⟩;have:=m.perm;rw[mI<|by simp,mI<|by simp] at this;exact this
theorem MS.finA(m:MS r a b out ia b.size)(asa:AscR r a 0 a.size):MD r a b (out++(a.extract ia a.size).toList):=by
 have h:=m.ha;have:=m.extA asa (a.size-ia) (by omega) λi hi j h1 h2=>by omega
 rw[show ia+(a.size-ia)=a.size by omega] at this;exact this.done
theorem MS.finL(m:MS r a b out ia ib)(asa:AscR r a 0 a.size)(asb:AscR r b 0 b.size)(h1:ia+1=a.size)(hab:∀j,j<b.size->rkA r b j<rkA r a (a.size-1)):MD r a b (out++(b.extract ib b.size).toList++(a.extract ia a.size).toList):=by
 have h:=m.hb
 have:=m.extB asb (b.size-ib) (by omega) λi hi j h1 h2=>by
  have e:j=a.size-1:=by omega
  rw[e];exact hab _<|by omega
 rw[show ib+(b.size-ib)=b.size by omega] at this;exact this.finA asa
theorem aGK(i:Nat)(h:a.size<=i):(a.extract i a.size).toList=[]:=by
 rw[cY,cF];have:a.size-i=0:=by omega
 rw[this];rfl
noncomputable def aMc(st:BK)(g:Nat):BK:=SortSt.mk' (kindOf st) (AJ st) (AD st) g<|failedOf st
noncomputable def iD:Nat->StateT BK Sem Unit:=sortPriv%PySem.Builtin.setMinGallop
theorem gX(g:Nat):iD g=modify λs=>aMc s g:=rfl
noncomputable def sY:Array AG->Array AG->StateT BK Sem (Array AG):=sortPriv%PySem.Builtin.mergeLo
structure SameG(st st':BK):Prop where
 kind:kindOf st'=kindOf st
 arr:AJ st'=AJ st
 pend:AD st'=AD st
 failed:failedOf st'=failedOf st
theorem SameG.refl(st:BK):SameG st st:=⟨rfl,rfl,rfl,rfl⟩
theorem SameG.set(h:SameG st st')(g:Nat):SameG st (aMc st' g):=⟨h.kind,h.arr,h.pend,h.failed⟩
structure MPre(r:AG->Nat)(a₀ a b:Array AG):Prop where
 a1:1<=a.size
 b1:1<=b.size
 asa:AscR r a 0 a.size
 asb:AscR r b 0 b.size
 ma:∀x∈a.toList,x∈a₀.toList
 mb:∀x∈b.toList,x∈a₀.toList
 ne:∀i j,i<a.size->j<b.size->rkA r a i≠rkA r b j
 first:rkA r b 0<rkA r a 0
 last:rkA r b (b.size-1)<rkA r a (a.size-1)
theorem AscR.le0{xs:Array AG}{i j:Nat}(a:AscR r xs 0 n)(hij:i<=j)(hj:j<n):rkA r xs i<=rkA r xs j:=by
 by_cases e:i=j
 ·rw[e];exact aO _
 ·exact dC (a _ _ (by omega) (by omega)<|by omega)
noncomputable abbrev SM:=StateT BK Sem
noncomputable abbrev ML1:=Option (Array AG)×Array AG×Nat×Nat×Nat×Nat
noncomputable abbrev ML2:=Option (Array AG)×Array AG×Nat×Nat×Nat×Nat×Nat
noncomputable abbrev ML0:=Option (Array AG)×Array AG×Nat×Nat×Nat
noncomputable def dnA(a b out:Array AG)(ia ib:Nat):Array AG:=out++a.extract ia a.size++b.extract ib b.size
noncomputable def lsA(a b out:Array AG)(ia ib:Nat):Array AG:=out++b.extract ib b.size++a.extract ia a.size
noncomputable def lo1(a b:Array AG)(mg:Nat)(c:ML1):SM (ForInStep ML1):=do
 let y <-elem' b c.2.2.2.1
 let x <-elem' a c.2.2.1
 let q <-lt' y x
 match q with
 |some bw=>
  if bw=true then do
   let y <-elem' b c.2.2.2.1
   if(c.2.2.2.1+1==b.size)=true then pure (.done (some (dnA a b (c.2.1.push y) c.2.2.1<|c.2.2.2.1+1),c.2.1.push y,c.2.2.1,c.2.2.2.1+1,0,c.2.2.2.2.2+1))
   else if c.2.2.2.2.2+1>=mg then pure (.done (none,c.2.1.push y,c.2.2.1,c.2.2.2.1+1,0,c.2.2.2.2.2+1))
   else pure (.yield (none,c.2.1.push y,c.2.2.1,c.2.2.2.1+1,0,c.2.2.2.2.2+1))
  else do
   let x <-elem' a c.2.2.1
   if(c.2.2.1+1+1==a.size)=true then pure (.done (some<|lsA a b (c.2.1.push x) (c.2.2.1+1) c.2.2.2.1,c.2.1.push x,c.2.2.1+1,c.2.2.2.1,c.2.2.2.2.1+1,0))
   else if c.2.2.2.2.1+1>=mg then pure (.done (none,c.2.1.push x,c.2.2.1+1,c.2.2.2.1,c.2.2.2.2.1+1,0))
   else pure (.yield (none,c.2.1.push x,c.2.2.1+1,c.2.2.2.1,c.2.2.2.2.1+1,0))
 |_=>pure<|.done (some<|dnA a b c.2.1 c.2.2.1 c.2.2.2.1,c.2.1,c.2.2.1,c.2.2.2.1,c.2.2.2.2.1,c.2.2.2.2.2)
noncomputable def aKw(a b out:Array AG)(ia ib mg k k1:Nat):SM (ForInStep ML2):=do
 let x <-elem' a ia
 if(ia+1+1==a.size)=true then pure (.done (some<|lsA a b (out.push x) (ia+1) ib,out.push x,ia+1,ib,mg,k,k1))
 else if(decide (k<7)&&decide (k1<7))=true then pure (.done (none,out.push x,ia+1,ib,mg,k,k1))
 else pure (.yield (none,out.push x,ia+1,ib,mg,k,k1))
noncomputable def aKG(a b out:Array AG)(ia ib mg k bc:Nat):SM (ForInStep ML2):=do
 let y <-elem' b ib
 if(ib+1==b.size)=true then pure (.done (some (dnA a b (out.push y) ia<|ib+1),out.push y,ia,ib+1,mg,k,bc))
 else do
  let x <-elem' a ia
  let q <-kF true x b (ib+1) (b.size-(ib+1)) 0
  match q with
  |some k1=>
   if k1>0 then
    if(ib+1+k1==b.size)=true then pure (.done (some (dnA a b (out.push y++b.extract (ib+1) (ib+1+k1)) ia<|ib+1+k1),out.push y++b.extract (ib+1) (ib+1+k1),ia,ib+1+k1,mg,k,k1))
    else aKw a b (out.push y++b.extract (ib+1) (ib+1+k1)) ia (ib+1+k1) mg k k1
   else aKw a b (out.push y) ia (ib+1) mg k k1
  |_=>pure<|.done (some (dnA a b (out.push y) ia<|ib+1),out.push y,ia,ib+1,mg,k,bc)
noncomputable def aIq(a b out:Array AG)(ia ib mg ac bc:Nat):SM (ForInStep ML2):=do
 iD mg
 let y <-elem' b ib
 let q <-kF false y a ia (a.size-ia) 0
 match q with
 |some k=>
  if k>0 then
   if(ia+k+1==a.size)=true then pure (.done (some<|lsA a b (out++a.extract ia (ia+k)) (ia+k) ib,out++a.extract ia (ia+k),ia+k,ib,mg,k,bc))
   else if(ia+k==a.size)=true then pure (.done (some<|dnA a b (out++a.extract ia (ia+k)) (ia+k) ib,out++a.extract ia (ia+k),ia+k,ib,mg,k,bc))
   else aKG a b (out++a.extract ia (ia+k)) (ia+k) ib mg k bc
  else aKG a b out ia ib mg k bc
 |_=>pure<|.done (some<|dnA a b out ia ib,out,ia,ib,mg,ac,bc)
noncomputable def lo2(a b:Array AG)(c:ML2):SM (ForInStep ML2):=
 if c.2.2.2.2.1>1 then aIq a b c.2.1 c.2.2.1 c.2.2.2.1 (c.2.2.2.2.1-1) c.2.2.2.2.2.1 c.2.2.2.2.2.2
 else aIq a b c.2.1 c.2.2.1 c.2.2.2.1 c.2.2.2.2.1 c.2.2.2.2.2.1 c.2.2.2.2.2.2
noncomputable def lo0(a b:Array AG)(c:ML0):SM (ForInStep ML0):=do
 let d <-forIn [:a.size+b.size] ((none,c.2.1,c.2.2.1,c.2.2.2.1,0,0):ML1) λ_ d=>lo1 a b c.2.2.2.2 d
 match d.1 with
 |some r=>pure<|.done (some r,d.2.1,d.2.2.1,d.2.2.2.1,c.2.2.2.2)
 |none=>do
  liftM (rule "list.sort.gallop")
  let e <-forIn [:a.size+b.size] ((none,d.2.1,d.2.2.1,d.2.2.2.1,c.2.2.2.2+1,d.2.2.2.2.1,d.2.2.2.2.2):ML2) λ_ e=>lo2 a b e
  match e.1 with
  |some r=>pure<|.done (some r,e.2.1,e.2.2.1,e.2.2.2.1,e.2.2.2.2.1)
  |none=>do
   iD (e.2.2.2.2.1+1)
   pure (.yield (none,e.2.1,e.2.2.1,e.2.2.2.1,e.2.2.2.2.1+1))
noncomputable def loM(a b:Array AG):SM (Array AG):=do
 liftM (rule "list.sort.merge-lo")
 let y <-elem' b 0
 if(1==b.size)=true then pure (dnA a b #[y] 0 1)
 else if(0+1==a.size)=true then pure (lsA a b #[y] 0 1)
 else do
  let g <-get
  let c <-forIn [:a.size+b.size] ((none, #[y],0,1,gallopOf g):ML0) λ_ c=>lo0 a b c
  match c.1 with
  |some r=>pure r
  |none=>liftM (unsupported "internal:list.sort.merge-bound":Sem (Array AG))
theorem aJB(a b:Array AG):sY a b=loM a b:=by kernel_rfl
def FIN(r:AG->Nat)(a b:Array AG)(o:Option (Array AG)):Prop:=∃res,o=some res/\MD r a b res.toList
def OKm(r:AG->Nat)(a b:Array AG)(N:Nat)(o:Option (Array AG))(out:Array AG)(ia ib:Nat):Prop:=o=none/\MS r a b out.toList ia ib/\ia+1<a.size/\ib<b.size/\N<=ia+ib
theorem OKm.mono{N N':Nat}{o:Option (Array AG)}{out:Array AG}(h:OKm r a b N o out ia ib)(le:N'<=N):OKm r a b N' o out ia ib:=⟨h.1,h.2.1,h.2.2.1,h.2.2.2.1,cC le h.2.2.2.2⟩
section
variable {prog:AF}{w:AM}{A:BG}{E:BD->BE->Prop}{s:BE}{κ:Aq}{r:AG->Nat}{a₀ a b out:Array AG}{st st0:BK}{ia ib:Nat}
theorem MPre.last'(M:MPre r a₀ a b):∀j,j<b.size->rkA r b j<rkA r a (a.size-1):=λj hj=>cI (M.asb.le0 (by omega)<|by omega) M.last
theorem wV(M:MPre r a₀ a b)(m:MS r a b out.toList ia ib)(h:ib=b.size):FIN r a b (some<|dnA a b out ia ib):=by subst h;refine⟨_,rfl, ?_⟩;have:=m.finA M.asa;unfold dnA;rw[cJ,cJ,aGK _<|aO _,bZ];exact this
theorem xY(M:MPre r a₀ a b)(m:MS r a b out.toList ia ib)(h:ia+1=a.size):FIN r a b (some<|lsA a b out ia ib):=by refine⟨_,rfl, ?_⟩;have:=m.finL M.asa M.asb h M.last';unfold lsA;rw[cJ,cJ];exact this
theorem MS.pushA'(M:MPre r a₀ a b)(m:MS r a b out.toList ia ib)(h:ia<a.size)(hb:∀j,ib<=j->j<b.size->rkA r a ia<rkA r b j):MS r a b (out.push a[ia]).toList (ia+1) ib:=by rw[iZ];exact m.pushA h M.asa hb
theorem MS.pushB'(M:MPre r a₀ a b)(m:MS r a b out.toList ia ib)(h:ib<b.size)(hb:∀j,ia<=j->j<a.size->rkA r b ib<rkA r a j):MS r a b (out.push b[ib]).toList ia (ib+1):=by rw[iZ];exact m.pushB h M.asb hb
theorem MS.extA'(M:MPre r a₀ a b)(m:MS r a b out.toList ia ib){k:Nat}(h:ia+k<=a.size)(hb:∀i,i<k->∀j,ib<=j->j<b.size->rkA r a (ia+i)<rkA r b j):MS r a b (out++a.extract ia (ia+k)).toList (ia+k) ib:=by rw[cJ];exact m.extA M.asa k h hb
theorem MS.extB'(M:MPre r a₀ a b)(m:MS r a b out.toList ia ib){k:Nat}(h:ib+k<=b.size)(hb:∀i,i<k->∀j,ia<=j->j<a.size->rkA r b (ib+i)<rkA r a j):MS r a b (out++b.extract ib (ib+k)).toList ia (ib+k):=by rw[cJ];exact m.extB M.asb k h hb
def P2(r:AG->Nat)(a b:Array AG)(st0:BK)(N:Nat):ForInStep ML2->BK->Prop:=λq st'=>SameG st0 st'/\match q with
 |.done c=>FIN r a b c.1\/OKm r a b N c.1 c.2.1 c.2.2.1 c.2.2.2.1
 |.yield c=>OKm r a b N c.1 c.2.1 c.2.2.1 c.2.2.2.1
theorem aBU{N mg k k1:Nat}(M:MPre r a₀ a b)(S:SameG st0 st)(m:MS r a b out.toList ia ib)(h1:ia+1<a.size)(h2:ib<b.size)(hN:N<=ia+1+ib)(hb:∀j,ib<=j->j<b.size->rkA r a ia<rkA r b j):wpS (AH prog w) A E s (aKw a b out ia ib mg k k1) (P2 r a b st0 N) st:=by
 unfold aKw;refine AE<|dN (by omega) ?_;have m2:=m.pushA' M (by omega) hb
 by_cases e:ia+1+1=a.size
 ·rw[if_pos<|by simpa using e];exact AI ⟨S,.inl<|xY M m2 e⟩
 ·rw[if_neg<|by simpa using e]
  split
  ·exact AI ⟨S,.inr ⟨rfl,m2,by show ia+1+1<_;omega,h2,hN⟩⟩
  ·exact AI ⟨S,rfl,m2,by show ia+1+1<_;omega,h2,hN⟩
theorem aBy{N mg k bc:Nat}(K:jQ prog w A E s κ r a₀)(hk:kindOf st0=κ)(M:MPre r a₀ a b)(S:SameG st0 st)(m:MS r a b out.toList ia ib)(h1:ia+1<a.size)(h2:ib<b.size)(hN:N<=ia+1+ib)(hb:∀j,ia<=j->j<a.size->rkA r b ib<rkA r a j):wpS (AH prog w) A E s (aKG a b out ia ib mg k bc) (P2 r a b st0 N) st:=by
 unfold aKG;refine AE<|dN (by omega) ?_;have m2:=m.pushB' M h2 hb
 by_cases e:ib+1=b.size
 ·rw[if_pos<|by simpa using e];exact AI ⟨S,.inl<|wV M m2 e⟩
 ·rw[if_neg<|by simpa using e];have h1':ia<a.size:=by omega
  refine AE<|dN h1' (AE<|nI K (S.kind.trans hk) M.mb (M.ma _<|by simp) (by omega) (by omega) (λi j h1 h2 h3=>M.asb i j (by omega) h2<|by omega) (λi hi e=>M.ne ia (ib+1+i) h1' (by omega)<|by rw[e,dF h1']) λk1 c1 c2 c3=> ?_);dsimp only;rw[<-dF (r:=r) h1'] at c2 c3;have m3:=m2.extB' M (k:=k1) (by omega) λi hi j j1 j2=>aQ (c2 i hi)<|M.asa.le0 j1 j2
  have c3':∀j,ib+1+k1<=j->j<b.size->rkA r a ia<rkA r b j:=λj j1 j2=>by
   have:=c3 (j-(ib+1)) (by omega)<|by omega
   rwa[show ib+1+(j-(ib+1))=j by omega] at this
  by_cases z:k1>0
  ·rw[if_pos z]
   by_cases y:ib+1+k1=b.size
   ·rw[if_pos<|by simpa using y];exact AI ⟨S,.inl<|wV M m3 y⟩
   ·rw[if_neg<|by simpa using y];exact aBU M S m3 h1 (by omega) (by omega) c3'
  ·rw[if_neg z];have z0:k1=0:=by omega
   subst z0;exact aBU M S m2 h1 (by omega) (by omega) c3'
theorem aGH{N mg ac bc:Nat}(K:jQ prog w A E s κ r a₀)(hk:kindOf st0=κ)(M:MPre r a₀ a b)(S:SameG st0 st)(m:MS r a b out.toList ia ib)(h1:ia+1<a.size)(h2:ib<b.size)(hN:N<=ia+1+ib):wpS (AH prog w) A E s (aIq a b out ia ib mg ac bc) (P2 r a b st0 N) st:=by
 unfold aIq;rw[gX];refine AE<|Au ?_;have S:=S.set mg;refine AE<|dN h2 (AE<|nI K (S.kind.trans hk) M.ma (M.mb _<|by simp) (by omega) (by omega) (λi j h1 h2 h3=>M.asa i j (by omega) h2<|by omega) (λi hi e=>M.ne (ia+i) ib (by omega) h2<|by rw[e,dF h2]) λk c1 c2 c3=> ?_);dsimp only;rw[<-dF (r:=r) h2] at c2 c3;have m3:=m.extA' M (k:=k) (by omega) λi hi j j1 j2=>aQ (c2 i hi)<|M.asb.le0 j1 j2
 have c3':∀j,ia+k<=j->j<a.size->rkA r b ib<rkA r a j:=λj j1 j2=>by
  have:=c3 (j-ia) (by omega)<|by omega
  rwa[show ia+(j-ia)=j by omega] at this
 have kl:ia+k<a.size:=by
  by_cases q:ia+k<a.size
  ·exact q
  ·have:=c2 (a.size-1-ia) (by omega);rw[show ia+(a.size-1-ia)=a.size-1 by omega] at this;have:=M.last' ib h2;omega
 by_cases z:k>0
 ·rw[if_pos z]
  by_cases y:ia+k+1=a.size
  ·rw[if_pos<|by simpa using y];exact AI ⟨S,.inl<|xY M m3 y⟩
  ·rw[if_neg (by simpa using y),if_neg<|by simp;omega];exact aBy K hk M S m3 (by omega) h2 (by omega) c3'
 ·rw[if_neg z];have z0:k=0:=by omega
  subst z0;exact aBy K hk M S m (by omega) h2 (by omega) c3'
def P1(r:AG->Nat)(a b:Array AG)(st:BK)(N:Nat):ForInStep ML1->BK->Prop:=λq st'=>st'=st/\match q with
 |.done c=>FIN r a b c.1\/OKm r a b N c.1 c.2.1 c.2.2.1 c.2.2.2.1
 |.yield c=>OKm r a b N c.1 c.2.1 c.2.2.1 c.2.2.2.1
theorem aKh{N mg:Nat}{c:ML1}(K:jQ prog w A E s κ r a₀)(hk:kindOf st=κ)(M:MPre r a₀ a b)(h:OKm r a b N c.1 c.2.1 c.2.2.1 c.2.2.2.1):wpS (AH prog w) A E s (lo1 a b mg c) (P1 r a b st<|N+1) st:=by
 obtain⟨o,out,ia,ib,ac,bc⟩:=c;obtain⟨h0,m,h1,h2,hN⟩:=h;dsimp only at h0 m h1 h2 hN;unfold lo1;dsimp only;have h1':ia<a.size:=by omega
 refine AE<|dN h2 (AE<|dN h1' (AE<|K.ask (M.mb _<|by simp) (M.ma _<|by simp) hk ?_));dsimp only
 by_cases q:r b[ib]<r a[ia]
 ·rw[if_pos<|by simpa using q];refine AE<|dN h2 ?_;have q':rkA r b ib<rkA r a ia:=by rw[dF h2,dF h1'];exact q
  have m2:=m.pushB' M h2 λj j1 j2=>aQ q'<|M.asa.le0 j1 j2
  by_cases e:ib+1=b.size
  ·rw[if_pos<|by simpa using e];exact AI ⟨rfl,.inl<|wV M m2 e⟩
  ·rw[if_neg<|by simpa using e]
   split
   ·exact AI ⟨rfl,.inr ⟨rfl,m2,h1,by show ib+1<_;omega,by show _<=ia+(ib+1);omega⟩⟩
   ·exact AI ⟨rfl,rfl,m2,h1,by show ib+1<_;omega,by show _<=ia+(ib+1);omega⟩
 ·rw[if_neg<|by simpa using q];refine AE (dN h1' ?_)
  have q':rkA r a ia<rkA r b ib:=by have:=M.ne ia ib h1' h2;rw[dF h1',dF h2] at this ⊢;omega
  have m2:=m.pushA' M h1' λj j1 j2=>aQ q'<|M.asb.le0 j1 j2
  by_cases e:ia+1+1=a.size
  ·rw[if_pos<|by simpa using e];exact AI ⟨rfl,.inl<|xY M m2 e⟩
  ·rw[if_neg<|by simpa using e]
   split
   ·exact AI ⟨rfl,.inr ⟨rfl,m2,by show ia+1+1<_;omega,h2,by show _<=ia+1+ib;omega⟩⟩
   ·exact AI ⟨rfl,rfl,m2,by show ia+1+1<_;omega,h2,by show _<=ia+1+ib;omega⟩
def P0(r:AG->Nat)(a b:Array AG)(st0:BK)(N:Nat):ForInStep ML0->BK->Prop:=λq st'=>SameG st0 st'/\match q with
 |.done c=>FIN r a b c.1
 |.yield c=>OKm r a b N c.1 c.2.1 c.2.2.1 c.2.2.2.1
theorem aJs{N:Nat}{c:ML0}(K:jQ prog w A E s κ r a₀)(hk:kindOf st0=κ)(M:MPre r a₀ a b)(S:SameG st0 st)(h:OKm r a b N c.1 c.2.1 c.2.2.1 c.2.2.2.1):wpS (AH prog w) A E s (lo0 a b c) (P0 r a b st0<|N+1) st:=by
 obtain⟨o,out,ia,ib,mg⟩:=c;obtain⟨h0,m,h1,h2,hN⟩:=h;dsimp only at h0 m h1 h2 hN;unfold lo0;dsimp only;refine AE<|AY (AS (I:=λx d st'=>st'=st/\OKm r a b (N+x) d.1 d.2.1 d.2.2.1 d.2.2.2.1) (Q:=λd st'=>st'=st/\(FIN r a b d.1\/OKm r a b (N+1) d.1 d.2.1 d.2.2.1 d.2.2.2.1)) ?step ?fin ⟨rfl,rfl,m,h1,h2,hN⟩) ?post
 case step=>
  rintro x d st' _ hx ⟨rfl,hd⟩;refine AY (aKh K (S.kind.trans hk) M hd) λq st'' hq=> ?_
  obtain⟨rfl,hq⟩:=hq;cases q with
  |done d=>exact⟨rfl,hq.imp id λz=>z.mono<|by omega⟩
  |yield d=>exact⟨rfl,hq⟩
 case fin=>rintro d st' ⟨rfl,_,_,h3,h4,h5⟩;omega
 case post=>
  rintro d st' ⟨rfl,hd⟩;obtain⟨o1,out,ia,ib,ac,bc⟩:=d
  rcases hd with⟨res,e,hres⟩|⟨e,m,h1,h2,hN⟩
  ·dsimp only at e;subst e;exact AI ⟨S,res,rfl,hres⟩
  ·dsimp only at e m h1 h2 hN;subst e;dsimp only;refine AE (wpS_lift<|At ⟨rfl, ?_⟩);refine AE (AY (AS (I:=λx d st'=>SameG st0 st'/\OKm r a b (N+1+x) d.1 d.2.1 d.2.2.1 d.2.2.2.1) (Q:=λd st'=>SameG st0 st'/\(FIN r a b d.1\/OKm r a b (N+1) d.1 d.2.1 d.2.2.1 d.2.2.2.1)) ?step2 ?fin2 ⟨S,rfl,m,h1,h2,hN⟩) ?post2)
   case step2=>
    rintro x ⟨o2,out,ia,ib,mg,ac,bc⟩ st' _ hx ⟨S,_,m,h1,h2,hN⟩;dsimp only at m h1 h2 hN;have key:∀mg,wpS (AH prog w) A E s (aIq a b out ia ib mg ac bc) (P2 r a b st0<|N+1+(x+1)) st':=λmg=>aGH K hk M S m h1 h2<|by omega
    unfold lo2;dsimp only
    split<;>
    ·refine AY (key _) λq st'' hq=> ?_
     obtain⟨S',hq⟩:=hq;cases q with
     |done d=>exact⟨S',hq.imp id λz=>z.mono<|by omega⟩
     |yield d=>exact⟨S',hq⟩
   case fin2=>rintro d st' ⟨_,_,_,h3,h4,h5⟩;omega
   case post2=>
    rintro⟨o2,out,ia,ib,mg,ac,bc⟩ st' ⟨S,hd⟩
    rcases hd with⟨res,e,hres⟩|⟨e,m,h1,h2,hN⟩
    ·dsimp only at e;subst e;exact AI ⟨S,res,rfl,hres⟩
    ·dsimp only at e m h1 h2 hN;subst e;dsimp only;rw[gX];exact AE (Au<|AI ⟨S.set _,rfl,m,h1,h2,hN⟩)
theorem aAa{Q:Array AG->BK->Prop}(K:jQ prog w A E s κ r a₀)(hk:kindOf st=κ)(M:MPre r a₀ a b)
  (h:∀out st',MD r a b out.toList->SameG st st'->Q out st'):wpS (AH prog w) A E s (sY a b) Q st:=by
 rw[aJB];unfold loM;refine AE (wpS_lift<|At ⟨rfl, ?_⟩);have b1:=M.b1;have a1:=M.a1;refine AE<|dN (by omega) ?_;have m0:MS r a b (#[]:Array AG).toList 0 0:=⟨by omega,by omega,by simp,by simp,λx hx=>by simp at hx,λx hx=>by simp at hx⟩;have m:MS r a b (#[b[0]]:Array AG).toList 0 1:=m0.pushB' M (by omega) λj j1 j2=>aQ M.first<|M.asa.le0 j1 j2
 by_cases e:1=b.size
 ·rw[if_pos<|by simpa using e];obtain⟨res,e2,hr⟩:=wV M m e;cases e2;exact AI (h _ _ hr<|.refl _)
 ·rw[if_neg<|by simpa using e]
  by_cases e1:0+1=a.size
  ·rw[if_pos<|by simpa using e1];obtain⟨res,e2,hr⟩:=xY M m e1;cases e2;exact AI (h _ _ hr<|.refl _)
  ·rw[if_neg<|by simpa using e1];refine AE (wpS_get (AE<|AY (AS (I:=λx d st'=>SameG st st'/\OKm r a b (x+1) d.1 d.2.1 d.2.2.1 d.2.2.2.1) (Q:=λd st'=>SameG st st'/\FIN r a b d.1) ?step ?fin ⟨.refl _,rfl,m,by show 0+1<_;omega,by show 1<_;omega,aO _⟩) ?post))
   case step=>
    rintro x d st' _ hx ⟨S,hd⟩;refine AY (aJs K hk M S hd) λq st'' hq=> ?_
    obtain⟨S',hq⟩:=hq;cases q with
    |done d=>exact⟨S',hq⟩
    |yield d=>exact⟨S',hq⟩
   case fin=>rintro d st' ⟨_,_,_,h3,h4,h5⟩;omega
   case post=>rintro d st' ⟨S,res,e,hr⟩;rw[e];exact AI<|h _ _ hr S
end
structure HS(r:AG->Nat)(a b:Array AG)(out:List AG)(na nb:Nat):Prop where
 ha:na<=a.size
 hb:nb<=b.size
 perm:out.Perm (a.toList.drop na++b.toList.drop nb)
 dsc:(out.map r).Pairwise (λx y=>y<x)
 la:∀x∈out,∀i,i<na->rkA r a i<r x
 lb:∀x∈out,∀i,i<nb->rkA r b i<r x
variable {na nb:Nat}
theorem HS.swap(m:HS r a b out na nb):HS r b a out nb na:=⟨m.hb,m.ha,m.perm.trans gO,m.dsc,m.lb,m.la⟩
theorem HS.pushA(m:HS r a b out (na+1) nb)(asa:AscR r a 0 a.size)(hb:∀j,j<nb->rkA r b j<rkA r a na):HS r a b (out++[a[na]'m.ha]) na nb:=by
 have h:na<a.size:=m.ha;refine⟨dC h,m.hb, ?_, ?_,λx hx i h1=> ?_,λx hx i h1=> ?_⟩
 ·have e:a.toList.drop na=a[na]::a.toList.drop (na+1):=by rw[eF<|by simpa using h];simp
  rw[e,aHZ];exact(gO).trans<|List.Perm.cons _ m.perm
 ·rw[aU,jO];refine⟨m.dsc,iU _ _,λx hx y hy=> ?_⟩;obtain⟨z,hz,rfl⟩:=aX.mp hx;have:y=r a[na]:=by simpa using hy
  rw[this,<-dF (r:=r) h];exact m.la z hz na<|mF _
 ·rcases aK.mp hx with hx|hx
  ·exact m.la x hx i<|by omega
  ·rw[aD.mp hx,<-dF (r:=r) h];exact asa i na (bJ _) h1 h
 ·rcases aK.mp hx with hx|hx
  ·exact m.lb x hx i h1
  ·rw[aD.mp hx,<-dF (r:=r) h];exact hb i h1
theorem aEk(h:k+1<=na)(h2:na<=a.size):(a.extract (na-(k+1)) na).toList.reverse=(a.extract (na-k) na).toList.reverse++[a[na-(k+1)]'(by omega)]:=by
 simp only[cY,cF]
 have e:a.toList.drop (na-(k+1))=a[na-(k+1)]'(by omega)::a.toList.drop (na-k):=by rw[eF<|by simp;omega];rw[show na-(k+1)+1=na-k by omega];simp
 rw[e,show na-(na-(k+1))=(na-(na-k))+1 by omega,aDr,List.reverse_cons]
theorem HS.extA(asa:AscR r a 0 a.size)(m:HS r a b out na nb):∀k,k<=na->(∀i,na-k<=i->i<na->∀j,j<nb->rkA r b j<rkA r a i)->HS r a b (out++(a.extract (na-k) na).toList.reverse) (na-k) nb
 |0,_,_=>by
  have e:(a.extract (na-0) na).toList.reverse=[]:=by simp[cY,cF]
  rw[e,bZ];exact m
 |k+1,h,hb=>by
  have ih:=HS.extA asa m k (by omega) λi h1 h2=>hb i (by omega) h2
  rw[aEk h m.ha,<-dL];have e:na-k=na-(k+1)+1:=by omega
  rw[e] at ih;have:=ih.pushA asa (hb (na-(k+1)) (aO _)<|by omega);rw[show a.extract (na-k) na=a.extract (na-(k+1)+1) na by rw[e]];exact this
theorem HS.extB(asb:AscR r b 0 b.size)(m:HS r a b out na nb)(k:Nat)(h:k<=nb)(hb:∀i,nb-k<=i->i<nb->∀j,j<na->rkA r a j<rkA r b i):HS r a b (out++(b.extract (nb-k) nb).toList.reverse) na (nb-k):=(m.swap.extA asb k h hb).swap
theorem HS.done(m:HS r a b out 0 0):MD r a b out.reverse:=by
 refine⟨(List.reverse_perm _).trans ?_, ?_⟩
 ·have:=m.perm;simpa using this
 ·rw[List.map_reverse,List.pairwise_reverse];exact m.dsc
theorem HS.finB(m:HS r a b out 0 nb)(asb:AscR r b 0 b.size):MD r a b ((b.extract 0 nb).toList++out.reverse):=by
 have:=m.extB asb nb (aO _) λi h1 h2 j hj=>by omega
 rw[rP] at this;have:=this.done
 rwa[aDs,aDj] at this
theorem HS.finL(m:HS r a b out na 1)(asa:AscR r a 0 a.size)(asb:AscR r b 0 b.size)(first:∀i,i<a.size->rkA r b 0<rkA r a i):MD r a b ((b.extract 0 1).toList++(a.extract 0 na).toList++out.reverse):=by
 have ha:=m.ha
 have:=m.extA asa na (aO _) λi h1 h2 j hj=>by
  have:j=0:=by omega
  subst this;exact first i<|by omega
 rw[rP] at this;have:=this.finB asb
 rwa[aDs,aDj,<-dL] at this
noncomputable def tZ:Array AG->Array AG->StateT BK Sem (Array AG):=sortPriv%PySem.Builtin.mergeHi
noncomputable abbrev MH1:=Option (Array AG)×Nat×Nat×Array AG×Nat×Nat
noncomputable abbrev MH2:=Option (Array AG)×Nat×Nat×Array AG×Nat×Nat×Nat
noncomputable abbrev MH0:=Option (Array AG)×Nat×Nat×Array AG×Nat
noncomputable def dnH(a b out:Array AG)(na nb:Nat):Array AG:=a.extract 0 na++b.extract 0 nb++out.reverse
noncomputable def fsB(a b out:Array AG)(na nb:Nat):Array AG:=b.extract 0 nb++a.extract 0 na++out.reverse
noncomputable def hi1(a b:Array AG)(mg:Nat)(c:MH1):SM (ForInStep MH1):=do
 let y <-elem' b (c.2.2.1-1)
 let x <-elem' a (c.2.1-1)
 let q <-lt' y x
 match q with
 |some aw=>
  if aw=true then do
   let x <-elem' a (c.2.1-1)
   if(c.2.1-1==0)=true then pure (.done (some<|dnH a b (c.2.2.2.1.push x) (c.2.1-1) c.2.2.1,c.2.1-1,c.2.2.1,c.2.2.2.1.push x,c.2.2.2.2.1+1,0))
   else if c.2.2.2.2.1+1>=mg then pure (.done (none,c.2.1-1,c.2.2.1,c.2.2.2.1.push x,c.2.2.2.2.1+1,0))
   else pure (.yield (none,c.2.1-1,c.2.2.1,c.2.2.2.1.push x,c.2.2.2.2.1+1,0))
  else do
   let y <-elem' b (c.2.2.1-1)
   if(c.2.2.1-1==1)=true then pure (.done (some (fsB a b (c.2.2.2.1.push y) c.2.1<|c.2.2.1-1),c.2.1,c.2.2.1-1,c.2.2.2.1.push y,0,c.2.2.2.2.2+1))
   else if c.2.2.2.2.2+1>=mg then pure (.done (none,c.2.1,c.2.2.1-1,c.2.2.2.1.push y,0,c.2.2.2.2.2+1))
   else pure (.yield (none,c.2.1,c.2.2.1-1,c.2.2.2.1.push y,0,c.2.2.2.2.2+1))
 |_=>pure<|.done (some<|dnH a b c.2.2.2.1 c.2.1 c.2.2.1,c.2.1,c.2.2.1,c.2.2.2.1,c.2.2.2.2.1,c.2.2.2.2.2)
noncomputable def aKx(a b out:Array AG)(na nb mg k k1:Nat):SM (ForInStep MH2):=do
 let x <-elem' a (na-1)
 if(na-1==0)=true then pure (.done (some<|dnH a b (out.push x) (na-1) nb,na-1,nb,out.push x,mg,k,k1))
 else if(decide (k<7)&&decide (k1<7))=true then pure (.done (none,na-1,nb,out.push x,mg,k,k1))
 else pure (.yield (none,na-1,nb,out.push x,mg,k,k1))
noncomputable def aKv(a b out:Array AG)(na nb mg k bc:Nat):SM (ForInStep MH2):=do
 let y <-elem' b (nb-1)
 if(nb-1==1)=true then pure (.done (some (fsB a b (out.push y) na<|nb-1),na,nb-1,out.push y,mg,k,bc))
 else do
  let x <-elem' a (na-1)
  let q <-kF true x b 0 (nb-1) (nb-1-1)
  match q with
  |some at_=>
   if nb-1-at_>0 then
    if(at_==1)=true then pure (.done (some<|fsB a b (out.push y++(b.extract at_<|nb-1).reverse) na at_,na,at_,out.push y++(b.extract at_<|nb-1).reverse,mg,k,nb-1-at_))
    else if(at_==0)=true then pure (.done (some<|dnH a b (out.push y++(b.extract at_<|nb-1).reverse) na at_,na,at_,out.push y++(b.extract at_<|nb-1).reverse,mg,k,nb-1-at_))
    else aKx a b (out.push y++(b.extract at_<|nb-1).reverse) na at_ mg k (nb-1-at_)
   else aKx a b (out.push y) na (nb-1) mg k (nb-1-at_)
  |_=>pure<|.done (some (dnH a b (out.push y) na<|nb-1),na,nb-1,out.push y,mg,k,bc)
noncomputable def aIr(a b out:Array AG)(na nb mg ac bc:Nat):SM (ForInStep MH2):=do
 iD mg
 let y <-elem' b (nb-1)
 let q <-kF false y a 0 na (na-1)
 match q with
 |some at_=>
  if na-at_>0 then
   if(at_==0)=true then pure (.done (some<|dnH a b (out++(a.extract at_ na).reverse) at_ nb,at_,nb,out++(a.extract at_ na).reverse,mg,na-at_,bc))
   else aKv a b (out++(a.extract at_ na).reverse) at_ nb mg (na-at_) bc
  else aKv a b out na nb mg (na-at_) bc
 |_=>pure<|.done (some<|dnH a b out na nb,na,nb,out,mg,ac,bc)
noncomputable def hi2(a b:Array AG)(c:MH2):SM (ForInStep MH2):=
 if c.2.2.2.2.1>1 then aIr a b c.2.2.2.1 c.2.1 c.2.2.1 (c.2.2.2.2.1-1) c.2.2.2.2.2.1 c.2.2.2.2.2.2
 else aIr a b c.2.2.2.1 c.2.1 c.2.2.1 c.2.2.2.2.1 c.2.2.2.2.2.1 c.2.2.2.2.2.2
noncomputable def hi0(a b:Array AG)(c:MH0):SM (ForInStep MH0):=do
 let d <-forIn [:a.size+b.size] ((none,c.2.1,c.2.2.1,c.2.2.2.1,0,0):MH1) λ_ d=>hi1 a b c.2.2.2.2 d
 match d.1 with
 |some r=>pure<|.done (some r,d.2.1,d.2.2.1,d.2.2.2.1,c.2.2.2.2)
 |none=>do
  liftM (rule "list.sort.gallop")
  let e <-forIn [:a.size+b.size] ((none,d.2.1,d.2.2.1,d.2.2.2.1,c.2.2.2.2+1,d.2.2.2.2.1,d.2.2.2.2.2):MH2) λ_ e=>hi2 a b e
  match e.1 with
  |some r=>pure<|.done (some r,e.2.1,e.2.2.1,e.2.2.2.1,e.2.2.2.2.1)
  |none=>do
   iD (e.2.2.2.2.1+1)
   pure (.yield (none,e.2.1,e.2.2.1,e.2.2.2.1,e.2.2.2.2.1+1))
noncomputable def hiM(a b:Array AG):SM (Array AG):=do
 liftM (rule "list.sort.merge-hi")
 let x <-elem' a (a.size-1)
 if(a.size-1==0)=true then pure (dnH a b #[x] (a.size-1) b.size)
 else if(b.size==1)=true then pure (fsB a b #[x] (a.size-1) b.size)
 else do
  let g <-get
  let c <-forIn [:a.size+b.size] ((none,a.size-1,b.size, #[x],gallopOf g):MH0) λ_ c=>hi0 a b c
  match c.1 with
  |some r=>pure r
  |none=>liftM (unsupported "internal:list.sort.merge-bound":Sem (Array AG))
theorem aJK(a b:Array AG):tZ a b=hiM a b:=by kernel_rfl
def OKh(r:AG->Nat)(a b:Array AG)(N:Nat)(o:Option (Array AG))(out:Array AG)(na nb:Nat):Prop:=o=none/\HS r a b out.toList na nb/\1<=na/\2<=nb/\na+nb+N<=a.size+b.size
theorem OKh.mono{N N':Nat}{o:Option (Array AG)}{out:Array AG}(h:OKh r a b N o out na nb)(le:N'<=N):OKh r a b N' o out na nb:=⟨h.1,h.2.1,h.2.2.1,h.2.2.2.1,by have:=h.2.2.2.2;omega⟩
section
variable {prog:AF}{w:AM}{A:BG}{E:BD->BE->Prop}{s:BE}{κ:Aq}{r:AG->Nat}{a₀ a b out:Array AG}{st st0:BK}{na nb:Nat}
theorem MPre.first'(M:MPre r a₀ a b):∀i,i<a.size->rkA r b 0<rkA r a i:=λi hi=>aQ M.first<|M.asa.le0 (bJ _) hi
theorem ex0(xs:Array AG):(xs.extract 0 0).toList=[]:=by simp[cY,cF]
theorem yF(M:MPre r a₀ a b)(m:HS r a b out.toList na nb)(h:na=0):FIN r a b (some<|dnH a b out na nb):=by subst h;refine⟨_,rfl, ?_⟩;have:=m.finB M.asb;unfold dnH;rw[cJ,cJ,ex0,uV,jM];exact this
theorem yL(M:MPre r a₀ a b)(m:HS r a b out.toList na nb)(h:nb=1):FIN r a b (some<|fsB a b out na nb):=by subst h;refine⟨_,rfl, ?_⟩;have:=m.finL M.asa M.asb M.first';unfold fsB;rw[cJ,cJ,jM];exact this
theorem HS.pushA'(M:MPre r a₀ a b)(m:HS r a b out.toList na nb)(h1:1<=na)(hb:∀j,j<nb->rkA r b j<rkA r a (na-1)):HS r a b (out.push<|a[na-1]'(by have:=m.ha;omega)).toList (na-1) nb:=by
 rw[iZ];have e:na=na-1+1:=by omega
 have m':HS r a b out.toList (na-1+1) nb:=by rw[<-e];exact m
 exact m'.pushA M.asa hb
theorem HS.pushB'(M:MPre r a₀ a b)(m:HS r a b out.toList na nb)(h1:1<=nb)(hb:∀j,j<na->rkA r a j<rkA r b (nb-1)):HS r a b (out.push<|b[nb-1]'(by have:=m.hb;omega)).toList na (nb-1):=by
 rw[iZ];have e:nb=nb-1+1:=by omega
 have m':HS r a b out.toList na (nb-1+1):=by rw[<-e];exact m
 exact(m'.swap.pushA M.asb hb).swap
theorem HS.extA'(M:MPre r a₀ a b)(m:HS r a b out.toList na nb){t:Nat}(h:t<=na)(hb:∀i,t<=i->i<na->∀j,j<nb->rkA r b j<rkA r a i):HS r a b (out++(a.extract t na).reverse).toList t nb:=by rw[cJ,jM];have:=m.extA M.asa (na-t) (by omega) (by rw[show na-(na-t)=t by omega];exact hb);rw[show na-(na-t)=t by omega] at this;exact this
theorem HS.extB'(M:MPre r a₀ a b)(m:HS r a b out.toList na nb){t:Nat}(h:t<=nb)(hb:∀i,t<=i->i<nb->∀j,j<na->rkA r a j<rkA r b i):HS r a b (out++(b.extract t nb).reverse).toList na t:=by rw[cJ,jM];have:=m.extB M.asb (nb-t) (by omega) (by rw[show nb-(nb-t)=t by omega];exact hb);rw[show nb-(nb-t)=t by omega] at this;exact this
def H2(r:AG->Nat)(a b:Array AG)(st0:BK)(N:Nat):ForInStep MH2->BK->Prop:=λq st'=>SameG st0 st'/\match q with
 |.done c=>FIN r a b c.1\/OKh r a b N c.1 c.2.2.2.1 c.2.1 c.2.2.1
 |.yield c=>OKh r a b N c.1 c.2.2.2.1 c.2.1 c.2.2.1
theorem aCe{N mg k k1:Nat}(M:MPre r a₀ a b)(S:SameG st0 st)(m:HS r a b out.toList na nb)(h1:1<=na)(h2:2<=nb)(hN:na-1+nb+N<=a.size+b.size)(hb:∀j,j<nb->rkA r b j<rkA r a (na-1)):wpS (AH prog w) A E s (aKx a b out na nb mg k k1) (H2 r a b st0 N) st:=by
 unfold aKx;have ha:=m.ha;refine AE<|dN (by omega) ?_;have m2:=m.pushA' M h1 hb
 by_cases e:na-1=0
 ·rw[if_pos<|by simpa using e];exact AI ⟨S,.inl<|yF M m2 e⟩
 ·rw[if_neg<|by simpa using e]
  split
  ·exact AI ⟨S,.inr ⟨rfl,m2,by show 1<=na-1;omega,h2,hN⟩⟩
  ·exact AI ⟨S,rfl,m2,by show 1<=na-1;omega,h2,hN⟩
theorem aBM{N mg k bc:Nat}(K:jQ prog w A E s κ r a₀)(hk:kindOf st0=κ)(M:MPre r a₀ a b)(S:SameG st0 st)(m:HS r a b out.toList na nb)(h1:1<=na)(h2:2<=nb)(hN:na-1+nb+N<=a.size+b.size)(hb:∀j,j<na->rkA r a j<rkA r b (nb-1)):wpS (AH prog w) A E s (aKv a b out na nb mg k bc) (H2 r a b st0 N) st:=by
 unfold aKv;have ha:=m.ha;have hbb:=m.hb;refine AE<|dN (by omega) ?_;have m2:=m.pushB' M (by omega) hb
 by_cases e:nb-1=1
 ·rw[if_pos<|by simpa using e];exact AI ⟨S,.inl<|yL M m2 e⟩
 ·rw[if_neg<|by simpa using e];have h1':na-1<a.size:=by omega
  refine AE<|dN h1' (AE<|nI K (S.kind.trans hk) M.mb (M.ma _<|by simp) (by omega) (by omega) (λi j h1 h2 h3=>M.asb i j (by omega) h2<|by omega) (λi hi e=>M.ne (na-1) i h1' (by omega)<|by rw[rQ] at e;rw[e,dF h1']) λat_ c1 c2 c3=> ?_);dsimp only;simp only[rQ] at c2 c3;rw[<-dF (r:=r) h1'] at c2 c3;have m3:=m2.extB' M (t:=at_) c1 λi i1 i2 j hj=>cI (M.asa.le0 (by omega) h1')<|c3 i i1 i2
  have a0:1<=at_:=by
   by_cases q:at_=0
   ·subst q;have:=c3 0 (aO _) (by omega);have:=M.first' (na-1) h1';omega
   ·omega
  by_cases z:nb-1-at_>0
  ·rw[if_pos z]
   by_cases y:at_=1
   ·rw[if_pos<|by simpa using y];exact AI ⟨S,.inl<|yL M m3 y⟩
   ·rw[if_neg (by simpa using y),if_neg<|by simp;omega];exact aCe M S m3 h1 (by omega) (by omega) c2
  ·rw[if_neg z];have z0:at_=nb-1:=by omega
   subst z0;exact aCe M S m2 h1 (by omega) (by omega) c2
theorem aHN{N mg ac bc:Nat}(K:jQ prog w A E s κ r a₀)(hk:kindOf st0=κ)(M:MPre r a₀ a b)(S:SameG st0 st)(m:HS r a b out.toList na nb)(h1:1<=na)(h2:2<=nb)(hN:na-1+nb+N<=a.size+b.size):wpS (AH prog w) A E s (aIr a b out na nb mg ac bc) (H2 r a b st0 N) st:=by
 unfold aIr;have ha:=m.ha;have hbb:=m.hb;rw[gX];refine AE<|Au ?_;have S:=S.set mg;have h2':nb-1<b.size:=by omega
 refine AE<|dN h2' (AE<|nI K (S.kind.trans hk) M.ma (M.mb _<|by simp) (by omega) (by omega) (λi j h1 h2 h3=>M.asa i j (by omega) h2<|by omega) (λi hi e=>M.ne i (nb-1) (by omega) h2'<|by rw[rQ] at e;rw[e,dF h2']) λat_ c1 c2 c3=> ?_);dsimp only;simp only[rQ] at c2 c3;rw[<-dF (r:=r) h2'] at c2 c3;have m3:=m.extA' M (t:=at_) c1 λi i1 i2 j hj=>cI (M.asb.le0 (by omega) h2')<|c3 i i1 i2
 by_cases z:na-at_>0
 ·rw[if_pos z]
  by_cases y:at_=0
  ·rw[if_pos<|by simpa using y];exact AI ⟨S,.inl<|yF M m3 y⟩
  ·rw[if_neg<|by simpa using y];exact aBM K hk M S m3 (by omega) h2 (by omega) c2
 ·rw[if_neg z];have z0:at_=na:=by omega
  subst z0;exact aBM K hk M S m h1 h2 hN c2
def H1(r:AG->Nat)(a b:Array AG)(st:BK)(N:Nat):ForInStep MH1->BK->Prop:=λq st'=>st'=st/\match q with
 |.done c=>FIN r a b c.1\/OKh r a b N c.1 c.2.2.2.1 c.2.1 c.2.2.1
 |.yield c=>OKh r a b N c.1 c.2.2.2.1 c.2.1 c.2.2.1
theorem aJl{N mg:Nat}{c:MH1}(K:jQ prog w A E s κ r a₀)(hk:kindOf st=κ)(M:MPre r a₀ a b)(h:OKh r a b N c.1 c.2.2.2.1 c.2.1 c.2.2.1):wpS (AH prog w) A E s (hi1 a b mg c) (H1 r a b st<|N+1) st:=by
 obtain⟨o,na,nb,out,ac,bc⟩:=c;obtain⟨h0,m,h1,h2,hN⟩:=h;dsimp only at h0 m h1 h2 hN;unfold hi1;dsimp only;have ha:=m.ha;have hbb:=m.hb;have h1':na-1<a.size:=by omega
 have h2':nb-1<b.size:=by omega
 refine AE<|dN h2' (AE<|dN h1' (AE<|K.ask (M.mb _<|by simp) (M.ma _<|by simp) hk ?_));dsimp only
 by_cases q:r b[nb-1]<r a[na-1]
 ·rw[if_pos<|by simpa using q];refine AE<|dN h1' ?_;have q':rkA r b (nb-1)<rkA r a (na-1):=by rw[dF h1',dF h2'];exact q
  have m2:=m.pushA' M h1 λj hj=>cI (M.asb.le0 (by omega) h2') q'
  by_cases e:na-1=0
  ·rw[if_pos<|by simpa using e];exact AI ⟨rfl,.inl<|yF M m2 e⟩
  ·rw[if_neg<|by simpa using e]
   split
   ·exact AI ⟨rfl,.inr ⟨rfl,m2,by show 1<=na-1;omega,h2,by show na-1+nb+_<=_;omega⟩⟩
   ·exact AI ⟨rfl,rfl,m2,by show 1<=na-1;omega,h2,by show na-1+nb+_<=_;omega⟩
 ·rw[if_neg<|by simpa using q];refine AE (dN h2' ?_)
  have q':rkA r a (na-1)<rkA r b (nb-1):=by have:=M.ne (na-1) (nb-1) h1' h2';rw[dF h1',dF h2'] at this ⊢;omega
  have m2:=m.pushB' M (by omega) λj hj=>cI (M.asa.le0 (by omega) h1') q'
  by_cases e:nb-1=1
  ·rw[if_pos<|by simpa using e];exact AI ⟨rfl,.inl<|yL M m2 e⟩
  ·rw[if_neg<|by simpa using e]
   split
   ·exact AI ⟨rfl,.inr ⟨rfl,m2,h1,by show 2<=nb-1;omega,by show na+(nb-1)+_<=_;omega⟩⟩
   ·exact AI ⟨rfl,rfl,m2,h1,by show 2<=nb-1;omega,by show na+(nb-1)+_<=_;omega⟩
def H0(r:AG->Nat)(a b:Array AG)(st0:BK)(N:Nat):ForInStep MH0->BK->Prop:=λq st'=>SameG st0 st'/\match q with
 |.done c=>FIN r a b c.1
 |.yield c=>OKh r a b N c.1 c.2.2.2.1 c.2.1 c.2.2.1
theorem aJf{N:Nat}{c:MH0}(K:jQ prog w A E s κ r a₀)(hk:kindOf st0=κ)(M:MPre r a₀ a b)(S:SameG st0 st)(h:OKh r a b N c.1 c.2.2.2.1 c.2.1 c.2.2.1):wpS (AH prog w) A E s (hi0 a b c) (H0 r a b st0<|N+1) st:=by
 obtain⟨o,na,nb,out,mg⟩:=c;obtain⟨h0,m,h1,h2,hN⟩:=h;dsimp only at h0 m h1 h2 hN;unfold hi0;dsimp only;refine AE<|AY (AS (I:=λx d st'=>st'=st/\OKh r a b (N+x) d.1 d.2.2.2.1 d.2.1 d.2.2.1) (Q:=λd st'=>st'=st/\(FIN r a b d.1\/OKh r a b (N+1) d.1 d.2.2.2.1 d.2.1 d.2.2.1)) ?step ?fin ⟨rfl,rfl,m,h1,h2,hN⟩) ?post
 case step=>
  rintro x d st' _ hx ⟨rfl,hd⟩;refine AY (aJl K (S.kind.trans hk) M hd) λq st'' hq=> ?_
  obtain⟨rfl,hq⟩:=hq;cases q with
  |done d=>exact⟨rfl,hq.imp id λz=>z.mono<|by omega⟩
  |yield d=>exact⟨rfl,hq⟩
 case fin=>rintro d st' ⟨rfl,_,_,h3,h4,h5⟩;omega
 case post=>
  rintro d st' ⟨rfl,hd⟩;obtain⟨o1,na,nb,out,ac,bc⟩:=d
  rcases hd with⟨res,e,hres⟩|⟨e,m,h1,h2,hN⟩
  ·dsimp only at e;subst e;exact AI ⟨S,res,rfl,hres⟩
  ·dsimp only at e m h1 h2 hN;subst e;dsimp only;refine AE (wpS_lift<|At ⟨rfl, ?_⟩);refine AE (AY (AS (I:=λx d st'=>SameG st0 st'/\OKh r a b (N+1+x) d.1 d.2.2.2.1 d.2.1 d.2.2.1) (Q:=λd st'=>SameG st0 st'/\(FIN r a b d.1\/OKh r a b (N+1) d.1 d.2.2.2.1 d.2.1 d.2.2.1)) ?step2 ?fin2 ⟨S,rfl,m,h1,h2,hN⟩) ?post2)
   case step2=>
    rintro x ⟨o2,na,nb,out,mg,ac,bc⟩ st' _ hx ⟨S,_,m,h1,h2,hN⟩;dsimp only at m h1 h2 hN;have key:∀mg,wpS (AH prog w) A E s (aIr a b out na nb mg ac bc) (H2 r a b st0<|N+1+(x+1)) st':=λmg=>aHN K hk M S m h1 h2<|by omega
    unfold hi2;dsimp only
    split<;>
    ·refine AY (key _) λq st'' hq=> ?_
     obtain⟨S',hq⟩:=hq;cases q with
     |done d=>exact⟨S',hq.imp id λz=>z.mono<|by omega⟩
     |yield d=>exact⟨S',hq⟩
   case fin2=>rintro d st' ⟨_,_,_,h3,h4,h5⟩;omega
   case post2=>
    rintro⟨o2,na,nb,out,mg,ac,bc⟩ st' ⟨S,hd⟩
    rcases hd with⟨res,e,hres⟩|⟨e,m,h1,h2,hN⟩
    ·dsimp only at e;subst e;exact AI ⟨S,res,rfl,hres⟩
    ·dsimp only at e m h1 h2 hN;subst e;dsimp only;rw[gX];exact AE (Au<|AI ⟨S.set _,rfl,m,h1,h2,hN⟩)
theorem zP{Q:Array AG->BK->Prop}(K:jQ prog w A E s κ r a₀)(hk:kindOf st=κ)(M:MPre r a₀ a b)
  (h:∀out st',MD r a b out.toList->SameG st st'->Q out st'):wpS (AH prog w) A E s (tZ a b) Q st:=by
 rw[aJK];unfold hiM;refine AE (wpS_lift<|At ⟨rfl, ?_⟩);have b1:=M.b1;have a1:=M.a1;refine AE<|dN (by omega) ?_;have m0:HS r a b (#[]:Array AG).toList a.size b.size:=⟨aO _,aO _,by rw[aAO<|by simp,aAO<|by simp];exact .refl _,by simp,λx hx=>by simp at hx,λx hx=>by simp at hx⟩;have m:HS r a b (#[a[a.size-1]]:Array AG).toList (a.size-1) b.size:=m0.pushA' M a1 λj hj=>M.last' j hj
 by_cases e:a.size-1=0
 ·rw[if_pos<|by simpa using e];obtain⟨res,e2,hr⟩:=yF M m e;cases e2;exact AI (h _ _ hr<|.refl _)
 ·rw[if_neg<|by simpa using e]
  by_cases e1:b.size=1
  ·rw[if_pos<|by simpa using e1];obtain⟨res,e2,hr⟩:=yL M m e1;cases e2;exact AI (h _ _ hr<|.refl _)
  ·rw[if_neg<|by simpa using e1];refine AE (wpS_get (AE<|AY (AS (I:=λx d st'=>SameG st st'/\OKh r a b (x+1) d.1 d.2.2.2.1 d.2.1 d.2.2.1) (Q:=λd st'=>SameG st st'/\FIN r a b d.1) ?step ?fin ⟨.refl _,rfl,m,by show 1<=a.size-1;omega,by show 2<=b.size;omega,by show a.size-1+b.size+(0+1)<=_;omega⟩) ?post))
   case step=>
    rintro x d st' _ hx ⟨S,hd⟩;refine AY (aJf K hk M S hd) λq st'' hq=> ?_
    obtain⟨S',hq⟩:=hq;cases q with
    |done d=>exact⟨S',hq⟩
    |yield d=>exact⟨S',hq⟩
   case fin=>rintro d st' ⟨_,_,_,h3,h4,h5⟩;omega
   case post=>rintro d st' ⟨S,res,e,hr⟩;rw[e];exact AI<|h _ _ hr S
end
noncomputable abbrev Pnd:=Array<|Nat×Nat×Nat
noncomputable def wbA(sa:Nat)(m:Array AG)(xs:Array AG):Array AG:=m.toList.zipIdx.foldl (λa (q:AG×Nat)=>a.setIfInBounds (sa+q.2) q.1) xs
noncomputable def mgC(x y:Array AG)(na nb sa:Nat):SM Bool:=do
 let merged <-if na<=nb then sY x y else tZ x y
 modify λs=>setArr s (wbA sa merged<|AJ s)
 let s <-get
 pure (failedOf s).isNone
noncomputable def mgB(xs:Array AG)(sa na sb nb:Nat):SM Bool:=do
 if(na==0)=true then pure true
 else do
  let x <-elem' xs (sa+na-1)
  let q <-kF true x xs sb nb (nb-1)
  match q with
  |some nb=>if(nb==0)=true then pure true else mgC (xs.extract sa sb) (xs.extract sb<|sb+nb) na nb sa
  |_=>pure false
noncomputable def mgA(i:Nat):SM Bool:=do
 let s <-get
 match(AD s)[i]?,(AD s)[i+1]? with
 |some (sa,na,pw),some (sb,nb,_)=>do
  set (Ay s (((AD s).setIfInBounds i (sa,na+nb,pw)).eraseIdxIfInBounds<|i+1))
  let y <-elem' (AJ s) sb
  let q <-kF false y (AJ s) sa na 0
  match q with
  |some k=>mgB (AJ s) (sa+k) (na-k) sb nb
  |_=>pure false
 |_,_=>liftM (unsupported "internal:list.sort.pending":Sem Bool)
theorem aKe(i:Nat):mergeAt' i=mgA i:=by kernel_rfl
noncomputable def aMa(pw:Nat):SM (ForInStep<|Option Unit×Unit):=do
 let s <-get
 match(if(AD s).size>1 then(AD s)[(AD s).size-2]? else none) with
 |some (_,_,older)=>
  if older<=pw then pure (.done (none,()))
  else do
   let b <-mergeAt' ((AD s).size-2)
   if(!b)=true then pure (.done (some (),())) else pure (.yield (none,()))
 |_=>pure<|.done (none,())
noncomputable def xI(lo n size:Nat):SM (ForInStep<|Option Unit×Nat):=do
 let s <-get
 match(AD s).back? with
 |some (s1,n1,_)=>do
  let c <-forIn [:size] ((none,()):Option Unit×Unit) λ_ _=>aMa<|power' size (2*s1+n1) (2*s1+n1+n1+n) size
  match c.1 with
  |some r=>pure<|.done (some r,lo)
  |none=>do
   modify λs=>Ay s<|(AD s).modify ((AD s).size-1) λ(st,len,_)=>(st,len,power' size (2*s1+n1) (2*s1+n1+n1+n) size)
   modify λs=>Ay s<|(AD s).push (lo,n,0)
   pure (.yield (none,lo+n))
 |_=>do
  modify λs=>Ay s<|(AD s).push (lo,n,0)
  pure (.yield (none,lo+n))
noncomputable def aFE(size minrun:Nat)(c:Option Unit×Nat):SM (ForInStep<|Option Unit×Nat):=
 if c.2>=size then pure (.done (none,c.2))
 else do
  let f <-countRun' c.2 (size-c.2)
  match f with
  |some found=>
   if found<minrun then do
    liftM (rule "list.sort.binary-insertion")
    let b <-binarySort' c.2 (min (size-c.2) minrun) found
    if(!b)=true then pure (.done (some (),c.2)) else xI c.2 (min (size-c.2) minrun) size
   else xI c.2 found size
  |_=>pure<|.done (some (),c.2)
noncomputable def aIE:SM (ForInStep<|Option Unit×Unit):=do
 let s <-get
 if(AD s).size<=1 then pure (.done (none,()))
 else do
  let b <-mergeAt' (if((if(AD s).size-2>0 then(AD s)[(AD s).size-2-1]?.map (·.2.1) else none).any (·<((AD s)[(AD s).size-2+1]?.elim 0 (·.2.1))))=true then(AD s).size-2-1 else(AD s).size-2)
  if(!b)=true then pure (.done (some (),())) else pure (.yield (none,()))
noncomputable def srM:SM Unit:=do
 let s <-get
 let c <-forIn [:(AJ s).size] ((none,0):Option Unit×Nat) λ_ c=>aFE (AJ s).size (minRun' (AJ s).size (AJ s).size 0) c
 match c.1 with
 |some r=>pure r
 |none=>do
  let d <-forIn [:(AJ s).size] ((none,()):Option Unit×Unit) λ_ _=>aIE
  match d.1 with
  |some r=>pure r
  |none=>pure ()
theorem aJb:sortRuns'=srM:=by kernel_rfl
variable {xs:Array AG}
theorem aBi{i j t:Nat}(h:i+t<j)(hj:j<=xs.size):rkA r (xs.extract i j) t=rkA r xs (i+t):=by refine gH ?_;rw[Array.getElem?_extract,if_pos<|by omega]
theorem aFI(sa t:Nat):∀ (l:List AG) (n:Nat) (xs:Array AG),sa+n+l.length<=xs.size->((l.zipIdx n).foldl (λa (q:AG×Nat)=>a.setIfInBounds (sa+q.2) q.1) xs)[t]? =if sa+n<=t/\t<sa+n+l.length then l[t-(sa+n)]? else xs[t]?
 |[],n,xs,_=>by rw[if_neg<|by rw[eZ];omega];rfl
 |p::l,n,xs,h=>by
  rw[bL] at h
  have S:(xs.setIfInBounds (sa+n) p)[t]? =if sa+n=t then some p else xs[t]? :=by
   rw[Array.getElem?_setIfInBounds]
   by_cases e:sa+n=t
   ·rw[if_pos e,if_pos e,if_pos<|by omega]
   ·rw[if_neg e,if_neg e]
  rw[List.zipIdx_cons,List.foldl_cons,aFI sa t l (n+1) _ (by rw[Array.size_setIfInBounds];omega),bL,S]
  by_cases e:sa+n=t
  ·rw[if_neg (show ¬ (sa+(n+1)<=t/\t<sa+(n+1)+l.length) by omega),if_pos e,if_pos (show sa+n<=t/\t<sa+n+(l.length+1) by omega),show t-(sa+n)=0 by omega];rfl
  ·by_cases q:sa+(n+1)<=t/\t<sa+(n+1)+l.length
   ·rw[if_pos q,if_pos (show sa+n<=t/\t<sa+n+(l.length+1) by omega),show t-(sa+n)=t-(sa+(n+1))+1 by omega,List.getElem?_cons_succ]
   ·rw[if_neg q,if_neg e,if_neg (show ¬ (sa+n<=t/\t<sa+n+(l.length+1)) by omega)]
theorem aIW{sa:Nat}{m:Array AG}(h:sa+m.size<=xs.size)(t:Nat):(wbA sa m xs)[t]? =if sa<=t/\t<sa+m.size then m[t-sa]? else xs[t]? :=by have:=aFI sa t m.toList 0 xs (by simpa using h);unfold wbA;rw[this];simp
theorem aHf{sa:Nat}{m:Array AG}(h:sa+m.size<=xs.size):(wbA sa m xs).toList=xs.toList.take sa++(m.toList++xs.toList.drop (sa+m.size)):=by
 apply rJ;intro t;rw[cS,aIW h];have l1:(xs.toList.take sa).length=sa:=by rw[cO];simp;omega
 by_cases h1:t<sa
 ·rw[if_neg<|by omega,cK (by rw[l1];exact h1),yR h1,cS]
 ·rw[cV (by rw[l1];omega),l1]
  by_cases h2:t<sa+m.size
  ·rw[if_pos ⟨by omega,h2⟩,cK (by simp;omega),cS]
  ·rw[if_neg<|by omega,cV (by simp;omega),aET,bS];rw[show sa+m.size+(t-sa-m.size)=t by omega,cS]
theorem aAr{sa:Nat}(h:sa+n<=xs.size):xs.toList=xs.toList.take sa++((xs.extract sa<|sa+n).toList++xs.toList.drop (sa+n)):=by
 rw[cY,cF,show sa+n-sa=n by omega];have e:xs.toList.drop (sa+n)=(xs.toList.drop sa).drop n:=by rw[aKu]
 rw[e,gP,gP]
theorem aHP{sa:Nat}{m:Array AG}(h:sa+m.size<=xs.size)(hp:m.toList.Perm (xs.extract sa<|sa+m.size).toList):(wbA sa m xs).Perm xs:=by apply fK.mpr;rw[aHf h];refine List.Perm.trans ?_<|List.Perm.of_eq (aAr (xs:=xs) h).symm;exact List.Perm.append_left _<|List.Perm.append_right _ hp
theorem aGZ{i j:Nat}(h1:i<=j)(h2:j<=k)(h3:k<=xs.size):(xs.extract i j).toList++(xs.extract j k).toList=(xs.extract i k).toList:=by simp only[cY,cF];rw[show k-i=(j-i)+(k-j) by omega,List.take_add,aKu,show i+(j-i)=j by omega]
theorem aGL{st2:BK}{Q:PUnit->BK->Prop}(h:Q ⟨⟩ st2):wpS (AH prog w) A E s (set st2:StateT BK Sem PUnit) Q st:=by unfold wpS;rw[StateT.run_set];exact AB ⟨rfl,h⟩
theorem zV{i sa pw sb pw':Nat}{Q:Bool->BK->Prop}(K:jQ prog w A E s κ r a₀)(hB:SB κ a₀ st)(p1:(AD st)[i]? =some (sa,na,pw))(p2:(AD st)[i+1]? =some (sb,nb,pw'))(hs:sb=sa+na)(n1:1<=na)(n2:1<=nb)(hz:sb+nb<=a₀.size)
  (A1:AscR r (AJ st) sa sb) (A2:AscR r (AJ st) sb (sb+nb))
  (h:∀st',SB κ a₀ st'->AD st'=((AD st).setIfInBounds i (sa,na+nb,pw)).eraseIdxIfInBounds (i+1)->(∀k,k<sa\/sb+nb<=k->(AJ st')[k]? =(AJ st)[k]?)->AscR r (AJ st') sa (sb+nb)->Q true st'):wpS (AH prog w) A E s (mergeAt' i) Q st:=by
 have sz:=hB.size;have mem:∀x∈(AJ st).toList,x∈a₀.toList:=λx hx=>(fK.mp hB.perm).mem_iff.mp hx
 rw[aKe];unfold mgA;refine AE<|wpS_get ?_;rw[p1,p2];dsimp only;refine AE<|aGL ?_;have hB1:SB κ a₀ (Ay st (((AD st).setIfInBounds i (sa,na+nb,pw)).eraseIdxIfInBounds<|i+1)):=⟨hB.perm,hB.kind,hB.failed⟩
 have h1:∀st',SameG (Ay st (((AD st).setIfInBounds i (sa,na+nb,pw)).eraseIdxIfInBounds<|i+1)) st'->AscR r (AJ st) sa (sb+nb)->Q true st':=λst' S a=>by refine h st' ⟨by rw[S.arr];exact hB.perm,by rw[S.kind];exact hB.kind,by rw[S.failed];exact hB.failed⟩ S.pend (λk _=>by rw[S.arr]) ?_;rw[S.arr];exact a
 have hsb:sb<(AJ st).size:=by omega
 refine AE<|dN hsb (AE<|nI K hB1.kind mem (mem _<|by simp) (by omega) (by omega) (by rw[<-hs];exact A1) (λj hj e=> ?_) λk c1 c2 c3=> ?_)
 ·rw[<-dF (r:=r) hsb] at e;exact hB.ne K (i:=sa+j) (j:=sb) (by omega) (by omega) (by omega) e
 rw[<-dF (r:=r) hsb] at c2 c3
 have c2':∀j,sa<=j->j<sa+k->rkA r (AJ st) j<rkA r (AJ st) sb:=λj j1 j2=>by
  have:=c2 (j-sa)<|by omega
  rwa[show sa+(j-sa)=j by omega] at this
 have c3':∀j,sa+k<=j->j<sb->rkA r (AJ st) sb<rkA r (AJ st) j:=λj j1 j2=>by
  have:=c3 (j-sa) (by omega)<|by omega
  rwa[show sa+(j-sa)=j by omega] at this
 have A2l:∀j,sb<=j->j<sb+nb->rkA r (AJ st) sb<=rkA r (AJ st) j:=λj j1 j2=>by
  by_cases e:j=sb
  ·rw[e];exact aO _
  ·exact dC<|A2 sb j (aO _) (by omega) j2
 dsimp only;unfold mgB
 by_cases e0:na-k=0
 ·rw[if_pos<|by simpa using e0];refine AI (h1 _ (.refl _) λi j i1 ij j1=> ?_)
  by_cases q1:j<sb
  ·exact A1 i j i1 ij q1
  ·by_cases q2:i<sb
   ·exact aQ (c2' i i1<|by omega)<|A2l j (by omega) j1
   ·exact A2 i j (by omega) ij j1
 ·rw[if_neg<|by simpa using e0];have ekn:sa+k+(na-k)-1=sb-1:=by omega
  have hkb:sb-1<(AJ st).size:=by omega
  rw[ekn];refine AE<|dN hkb (AE<|nI K hB1.kind mem (mem _<|by simp) (by omega) (by omega) A2 (λj hj e=> ?_) λn2' d1 d2 d3=> ?_)
  ·rw[<-dF (r:=r) hkb] at e;exact hB.ne K (i:=sb+j) (j:=sb-1) (by omega) (by omega) (by omega) e
  rw[<-dF (r:=r) hkb] at d2 d3
  have d2':∀j,sb<=j->j<sb+n2'->rkA r (AJ st) j<rkA r (AJ st) (sb-1):=λj j1 j2=>by
   have:=d2 (j-sb)<|by omega
   rwa[show sb+(j-sb)=j by omega] at this
  have d3':∀j,sb+n2'<=j->j<sb+nb->rkA r (AJ st) (sb-1)<rkA r (AJ st) j:=λj j1 j2=>by
   have:=d3 (j-sb) (by omega)<|by omega
   rwa[show sb+(j-sb)=j by omega] at this
  have n2p:n2'≠0:=λz=>by subst z;have a:=d3' sb (by omega) (by omega);have b:=c3' (sb-1) (by omega) (by omega);omega
  dsimp only;rw[if_neg<|by simpa using n2p];unfold mgC
  have M:MPre r a₀ ((AJ st).extract (sa+k) sb) ((AJ st).extract sb<|sb+n2'):=by
   have s1:((AJ st).extract (sa+k) sb).size=sb-(sa+k):=by rw[iR];omega
   have s2:((AJ st).extract sb<|sb+n2').size=n2':=by rw[iR];omega
   have e1:∀t,t<sb-(sa+k)->rkA r ((AJ st).extract (sa+k) sb) t=rkA r (AJ st) (sa+k+t):=λt ht=>aBi (by omega)<|by omega
   have e2:∀t,t<n2'->rkA r ((AJ st).extract sb<|sb+n2') t=rkA r (AJ st) (sb+t):=λt ht=>aBi (by omega)<|by omega
   refine⟨by omega,by omega,λi j _ ij j1=> ?_,λi j _ ij j1=> ?_,λx hx=> ?_,λx hx=> ?_,λi j i1 j1=> ?_, ?_, ?_⟩
   ·rw[s1] at j1;rw[e1 i<|by omega,e1 j j1];exact A1 _ _ (by omega) (by omega)<|by omega
   ·rw[s2] at j1;rw[e2 i<|by omega,e2 j j1];exact A2 _ _ (by omega) (by omega)<|by omega
   ·rw[cY,cF] at hx;exact mem x (aDk<|aDl hx)
   ·rw[cY,cF] at hx;exact mem x (aDk<|aDl hx)
   ·rw[s1] at i1;rw[s2] at j1;rw[e1 i i1,e2 j j1];exact hB.ne K (by omega) (by omega)<|by omega
   ·rw[e1 0<|by omega,e2 0<|by omega];exact c3' _ (by omega)<|by omega
   ·rw[s1,s2,e1 _<|by omega,e2 _<|by omega,show sa+k+(sb-(sa+k)-1)=sb-1 by omega];exact d2' _ (by omega)<|by omega
  have fin:∀out st',MD r ((AJ st).extract (sa+k) sb) ((AJ st).extract sb (sb+n2')) out.toList→SameG (Ay st (((AD st).setIfInBounds i (sa,na+nb,pw)).eraseIdxIfInBounds (i+1))) st'→wpS (AH prog w) A E s (do
    modify λs=>setArr s (wbA (sa+k) out<|AJ s)
    let s <-get
    pure (failedOf s).isNone) Q st':=λout st' D S=>by
   refine AE (Au<|AE (wpS_get<|AI ?_))
   have ep:out.toList.Perm ((AJ st).extract (sa+k)<|sb+n2').toList:=by
    have:=D.1
    rwa[aGZ (by omega) (by omega)<|by omega] at this
   have sO:out.size=sb+n2'-(sa+k):=by have:=ep.length_eq;rw[bS,bS,iR] at this;omega
   have hz2:sa+k+out.size<=(AJ st).size:=by omega
   have ep2:out.toList.Perm ((AJ st).extract (sa+k)<|sa+k+out.size).toList:=by rw[sO,show sa+k+(sb+n2'-(sa+k))=sb+n2' by omega];exact ep
   have ff:failedOf (setArr st' (wbA (sa+k) out<|AJ st'))=none:=by show failedOf st'=none;rw[S.failed];exact hB.failed
   rw[ff];have arr':AJ st'=AJ st:=S.arr
   have at_:∀t,(AJ<|setArr st' (wbA (sa+k) out<|AJ st'))[t]? =if sa+k<=t/\t<sb+n2' then out[t-(sa+k)]? else(AJ st)[t]? :=λt=>by show(wbA (sa+k) out<|AJ st')[t]? =_;rw[arr',aIW hz2,sO,show sa+k+(sb+n2'-(sa+k))=sb+n2' by omega]
   refine h _ ⟨?_, ?_,ff⟩ ?_ (λt ht=>by rw[at_,if_neg<|by omega]) ?_
   ·show(wbA (sa+k) out<|AJ st').Perm a₀;rw[arr'];exact(aHP hz2 ep2).trans hB.perm
   ·show kindOf st'=κ;rw[S.kind];exact hB.kind
   ·show AD st'=_;rw[S.pend]
   ·have rin:∀t,sa+k<=t->t<sb+n2'->rkA r (AJ<|setArr st' (wbA (sa+k) out<|AJ st')) t=rkA r out (t-(sa+k)):=λt t1 t2=>gH (by rw[at_,if_pos ⟨t1,t2⟩])
    have rout:∀t,t<sa+k\/sb+n2'<=t->rkA r (AJ<|setArr st' (wbA (sa+k) out<|AJ st')) t=rkA r (AJ st) t:=λt ht=>gH (by rw[at_,if_neg<|by omega])
    have mo:∀u,u<out.size->∃v,sa+k<=v/\v<sb+n2'/\rkA r out u=rkA r (AJ st) v:=λu hu=>by
     have hm:out[u]∈((AJ st).extract (sa+k)<|sb+n2').toList:=ep.mem_iff.mp (by simp);obtain⟨v,hv,ev⟩:=fE hm
     have hv':v<sb+n2'-(sa+k):=by have:=hv;rw[bS,iR] at this;omega
     refine⟨sa+k+v,by omega,by omega, ?_⟩;rw[dF hu,<-ev,<-aBi (xs:=AJ st) (i:=sa+k) (j:=sb+n2') (t:=v) (by omega) (by omega)];rw[dF<|by rw[iR];omega];simp
    have asO:∀u v,u<v->v<out.size->rkA r out u<rkA r out v:=λu v uv hv=>by have:=(yN.mp D.2) u v (by simp;omega) (by simpa using hv) uv;rw[dF<|by omega,dF hv];simpa using this
    have low:∀t u,sa<=t->t<sa+k->u<out.size->rkA r (AJ st) t<rkA r out u:=λt u t1 t2 hu=>by
     obtain⟨v,v1,v2,ev⟩:=mo u hu;rw[ev]
     by_cases q:v<sb
     ·exact A1 t v t1 (by omega) q
     ·exact aQ (c2' t t1 t2) (A2l v (by omega)<|by omega)
    have high:∀t u,sb+n2'<=t->t<sb+nb->u<out.size->rkA r out u<rkA r (AJ st) t:=λt u t1 t2 hu=>by
     obtain⟨v,v1,v2,ev⟩:=mo u hu;rw[ev]
     by_cases q:v<sb
     ·refine cI ?_ (d3' t t1 t2)
      by_cases e:v=sb-1
      ·rw[e];exact aO _
      ·exact dC (A1 v (sb-1) (by omega) (by omega)<|by omega)
     ·exact A2 v t (by omega) (by omega) t2
    intro u v u1 uv v1
    by_cases q1:u<sa+k
    ·rw[rout u<|.inl q1]
     by_cases q2:v<sa+k
     ·rw[rout v<|.inl q2];exact A1 u v u1 uv<|by omega
     ·by_cases q3:v<sb+n2'
      ·rw[rin v (by omega) q3];exact low _ _ u1 q1<|by omega
      ·rw[rout v (.inr<|by omega)];exact aQ (c2' u u1 q1)<|A2l v (by omega) v1
    ·by_cases q2:u<sb+n2'
     ·rw[rin u (by omega) q2]
      by_cases q3:v<sb+n2'
      ·rw[rin v (by omega) q3];exact asO _ _ (by omega)<|by omega
      ·rw[rout v (.inr<|by omega)];exact high _ _ (by omega) v1<|by omega
     ·rw[rout u (.inr<|by omega),rout v (.inr<|by omega)];exact A2 u v (by omega) uv v1
  dsimp only
  split
  ·exact AE<|aAa K hB1.kind M fin
  ·exact AE<|zP K hB1.kind M fin
noncomputable def Runs(r:AG->Nat)(xs:Array AG):Nat->List (Nat×Nat×Nat)->Nat->Prop
 |s,[],e=>s=e
 |s,p::l,e=>p.1=s/\1<=p.2.1/\AscR r xs s (s+p.2.1)/\Runs r xs (s+p.2.1) l e
variable {ys:Array AG}
theorem AscR.keep{s e:Nat}(h:AscR r xs s e)(k:∀t,s<=t->t<e->ys[t]? =xs[t]?):AscR r ys s e:=λi j hi hij hj=>by rw[gH (k i hi<|by omega),gH<|k j (by omega) hj];exact h i j hi hij hj
theorem Runs.le:∀ {l:List (Nat×Nat×Nat)}{s e:Nat},Runs r xs s l e->s+l.length<=e
 |[],s,e,h=>by rw[show s=e from h];exact aO _
 |p::l,s,e,⟨_,h1,_,h2⟩=>by have:=h2.le;rw[bL];omega
theorem Runs.keep:∀ {l:List (Nat×Nat×Nat)}{s e:Nat},Runs r xs s l e->(∀t,s<=t->t<e->ys[t]? =xs[t]?)->Runs r ys s l e
 |[],_,_,h,_=>h
 |p::l,s,e,⟨h0,h1,h2,h3⟩,k=>by have:=h3.le;exact⟨h0,h1,h2.keep λt t1 t2=>k t t1<|by omega,h3.keep λt t1 t2=>k t (by omega) t2⟩
theorem Runs.split:∀ {l1 l2:List (Nat×Nat×Nat)}{s e:Nat},Runs r xs s (l1++l2) e->∃m,Runs r xs s l1 m/\Runs r xs m l2 e
 |[],l2,s,e,h=>⟨s,rfl,h⟩
 |p::l1,l2,s,e,⟨h0,h1,h2,h3⟩=>by obtain⟨m,a,b⟩:=Runs.split h3;exact⟨m,⟨h0,h1,h2,a⟩,b⟩
theorem Runs.app:∀ {l1 l2:List (Nat×Nat×Nat)}{s m e:Nat},Runs r xs s l1 m->Runs r xs m l2 e->Runs r xs s (l1++l2) e
 |[],l2,s,m,e,h,h2=>by rw[show s=m from h];exact h2
 |p::l1,l2,s,m,e,⟨h0,h1,h2,h3⟩,b=>⟨h0,h1,h2,Runs.app h3 b⟩
theorem Runs.pow{l1:List (Nat×Nat×Nat)}{x y:Nat×Nat×Nat}{s e:Nat}(h:Runs r xs s (l1++[x]) e)(h1:y.1=x.1)(h2:y.2.1=x.2.1):Runs r xs s (l1++[y]) e:=by obtain⟨m,a,b⟩:=h.split;refine a.app ?_;obtain⟨b0,b1,b2,b3⟩:=b;exact⟨h1.trans b0,by rw[h2];exact b1,by rw[h2];exact b2,by rw[h2];exact b3⟩
theorem aFF{p:Pnd}{i:Nat}(h:i+1<p.size)(v:Nat×Nat×Nat):p.toList=p.toList.take i++p[i]::p[i+1]::p.toList.drop (i+2)/\((p.setIfInBounds i v).eraseIdxIfInBounds<|i+1).toList=p.toList.take i++v::p.toList.drop (i+2):=by
 have e1:p.toList=p.toList.take i++p[i]::p[i+1]::p.toList.drop (i+2):=by
  have a:p.toList.drop i=p[i]::p.toList.drop (i+1):=by rw[eF<|by simp;omega];simp
  have b:p.toList.drop (i+1)=p[i+1]::p.toList.drop (i+1+1):=by rw[eF<|by simp;omega];simp
  rw[<-b,<-a,gP]
 refine⟨e1, ?_⟩;have l1:(p.toList.take i).length=i:=by rw[cO];simp;omega
 rw[Array.toList_eraseIdxIfInBounds,Array.toList_setIfInBounds];generalize p.toList.take i=u at e1 l1;generalize p.toList.drop (i+2)=z at e1;rw[e1];rw[List.set_append_right _ _<|by omega,l1,rP,List.set_cons_zero,List.eraseIdx_append_of_length_le<|by omega,l1,show i+1-i=1 by omega];rfl
theorem aBv{i e:Nat}{Q:Bool->BK->Prop}(K:jQ prog w A E s κ r a₀)(hB:SB κ a₀ st)(R:Runs r (AJ st) 0 (AD st).toList e)(he:e<=a₀.size)(hi:i+1<(AD st).size)
  (h:∀st',SB κ a₀ st'->Runs r (AJ st') 0 (AD st').toList e->(AD st').size+1=(AD st).size->(∀k,e<=k->(AJ st')[k]? =(AJ st)[k]?)->Q true st'):wpS (AH prog w) A E s (mergeAt' i) Q st:=by
 obtain⟨e1,_⟩:=aFF hi (0,0,0);have R0:=R;rw[e1] at R0;obtain⟨m,R1,a1,a2,a3,b1,b2,b3,R2⟩:=R0.split
 have h1:(AD st)[i]? =some (m,(AD st)[i].2.1,(AD st)[i].2.2):=by rw[getElem?_pos _ i<|by omega];refine congrArg some ?_;rw[<-a1]
 have h2:(AD st)[i+1]? =some (m+(AD st)[i].2.1,(AD st)[i+1].2.1,(AD st)[i+1].2.2):=by rw[getElem?_pos _ (i+1)<|by omega];refine congrArg some ?_;rw[<-b1]
 have l2:=R2.le;have l1:=R1.le;refine zV K hB h1 h2 rfl a2 b2 (by omega) a3 b3 λst' hB' hp hk ha=> ?_
 obtain⟨_,e2⟩:=aFF hi (m,(AD st)[i].2.1+(AD st)[i+1].2.1,(AD st)[i].2.2);have ep:(AD st').toList=(AD st).toList.take i++(m,(AD st)[i].2.1+(AD st)[i+1].2.1,(AD st)[i].2.2)::(AD st).toList.drop (i+2):=by rw[hp];exact e2
 refine h st' hB' ?_ ?_ λk hk2=>hk k (.inr<|by omega)
 ·rw[ep];refine(R1.keep λt _ t2=>hk t<|.inl t2).app ⟨rfl,by show 1<=_+_;omega, ?_, ?_⟩
  ·show AscR r (AJ st') m (m+(_+_));rw[<-aLH];exact ha
  ·show Runs r (AJ st') (m+(_+_)) _ e;rw[<-aLH];exact R2.keep λt t1 _=>hk t<|.inr t1
 ·have:=congrArg nZ ep;have q:=congrArg nZ e1;simp only[bS,aM,bL] at this q;omega
structure SR(κ:Aq)(r:AG->Nat)(a₀:Array AG)(lo:Nat)(st:BK):Prop where
 sb:SB κ a₀ st
 runs:Runs r (AJ st) 0 (AD st).toList lo
theorem yU{lo:Nat}{Q:ForInStep (Option Unit×Nat)->BK->Prop}(K:jQ prog w A E s κ r a₀)(S:SR κ r a₀ lo st)(n1:1<=n)(hn:lo+n<=a₀.size)(ha:AscR r (AJ st) lo (lo+n))(h:∀st',SR κ r a₀ (lo+n) st'->Q (.yield (none,lo+n)) st'):wpS (AH prog w) A E s (xI lo n a₀.size) Q st:=by
 unfold xI;refine AE<|wpS_get ?_
 have fin:∀st',SR κ r a₀ lo st'->AscR r (AJ st') lo (lo+n)->SR κ r a₀ (lo+n) (Ay st'<|(AD st').push (lo,n,0)):=λst' S' ha'=>by refine⟨⟨S'.sb.perm,S'.sb.kind,S'.sb.failed⟩, ?_⟩;show Runs r (AJ st') 0 ((AD st').push (lo,n,0)).toList (lo+n);rw[iZ];exact S'.runs.app ⟨rfl,n1,ha',rfl⟩
 cases hb:(AD st).back? with
 |none=>exact AE (Au<|AI (h _<|fin st S ha))
 |some p=>
  obtain⟨s1,n1',p1⟩:=p;dsimp only;generalize power' a₀.size (2*s1+n1') (2*s1+n1'+n1'+n) a₀.size=pw
  have ne0:1<=(AD st).size:=by
   rcases Nat.eq_zero_or_pos (AD st).size with z|z
   ·rw[Array.eq_empty_of_size_eq_zero z] at hb;cases hb
   ·exact z
  refine AE<|AY (AS (I:=λ_ c st'=>c=(none,())/\SR κ r a₀ lo st'/\1<=(AD st').size/\AscR r (AJ st') lo (lo+n)) (Q:=λc st'=>c=(none,())/\SR κ r a₀ lo st'/\1<=(AD st').size/\AscR r (AJ st') lo (lo+n)) ?step (λ_ _ z=>z) ⟨rfl,S,ne0,ha⟩) ?post
  case step=>
   rintro x c st' _ hx ⟨rfl,S',ne',ha'⟩;unfold aMa;refine AE<|wpS_get ?_
   by_cases q:(AD st').size>1
   ·rw[if_pos q,getElem?_pos _ _<|by omega];dsimp only
    split
    ·exact AI ⟨rfl,S',ne',ha'⟩
    ·refine AE<|aBv K S'.sb S'.runs (by omega) (by omega) λst'' hB hr hs hk=> ?_;rw[if_neg<|by decide];exact AI ⟨rfl,⟨hB,hr⟩,by omega,ha'.keep λt t1 _=>hk t t1⟩
   ·rw[if_neg q];exact AI ⟨rfl,S',ne',ha'⟩
  case post=>
   rintro c st' ⟨rfl,S',ne',ha'⟩;dsimp only;refine AE (Au<|AE (Au<|AI (h _<|fin (Ay st'<|(AD st').modify ((AD st').size-1) λ(x:Nat×Nat×Nat)=>(x.1,x.2.1,pw)) ⟨⟨S'.sb.perm,S'.sb.kind,S'.sb.failed⟩, ?_⟩ ha')));show Runs r (AJ st') 0 ((AD st').modify ((AD st').size-1) λ(x:Nat×Nat×Nat)=>(x.1,x.2.1,pw)).toList lo
   have hl:(AD st').toList≠[]:=λz=>by have:=congrArg nZ z;rw[bS,eZ] at this;omega
   have e1:=(fA hl).symm;have R:=S'.runs;rw[e1] at R
   have e2:((AD st').modify ((AD st').size-1) λ(x:Nat×Nat×Nat)=>(x.1,x.2.1,pw)).toList=(AD st').toList.dropLast++[(((AD st').toList.getLast hl).1,((AD st').toList.getLast hl).2.1,pw)]:=by
    apply rJ;intro t;rw[cS,aAP];have ld:(AD st').toList.dropLast.length=(AD st').size-1:=by simp
    by_cases q:(AD st').size-1=t
    ·rw[if_pos q,cV (by rw[ld];omega),ld,q,rP,<-q];rw[List.getLast_eq_getElem];have:(AD st').size-1<(AD st').size:=by omega
     simp[this]
    ·rw[if_neg q]
     by_cases q2:t<(AD st').size-1
     ·rw[cK (by rw[ld];exact q2),List.getElem?_dropLast,if_pos (by simpa using q2),cS]
     ·rw[cV (by rw[ld];omega),ld];rw[aAm<|by omega,gN<|by simp;omega]
   rw[e2];exact R.pow rfl rfl
theorem aCw{Q:Unit->BK->Prop}(K:jQ prog w A E s κ r a₀)(hB:SB κ a₀ st)(hp:AD st= #[])(h:∀st',SB κ a₀ st'->AscR r (AJ st') 0 a₀.size->Q () st'):wpS (AH prog w) A E s sortRuns' Q st:=by
 rw[aJb];unfold srM;refine AE<|wpS_get ?_;have sz:=hB.size;rw[sz];generalize minRun' a₀.size a₀.size 0=minrun;refine AE<|AY (AS (I:=λx c st'=>∃lo,c=(none,lo)/\SR κ r a₀ lo st'/\lo<=a₀.size/\(x<=lo\/lo=a₀.size)) (Q:=λc st'=>c=(none,a₀.size)/\SR κ r a₀ a₀.size st') ?step ?fin ⟨0,rfl,⟨hB,by rw[hp];rfl⟩,bJ _,.inl<|aO _⟩) ?post
 case fin=>
  rintro c st' ⟨lo,rfl,S,h1,h2⟩;have:lo=a₀.size:=by omega
  subst this;exact⟨rfl,S⟩
 case step=>
  rintro x c st' _ hx ⟨lo,rfl,S,h1,h2⟩;unfold aFE;dsimp only
  by_cases q:lo>=a₀.size
  ·rw[if_pos q];have:lo=a₀.size:=by omega
   subst this;exact AI ⟨rfl,S⟩
  ·rw[if_neg q];refine AE<|aAq K S.sb (by omega) (by omega) λm st2 m1 m2 T ha=> ?_;have S2:SR κ r a₀ lo st2:=⟨T.sb,by rw[T.pend];exact S.runs.keep λt _ t2=>T.keep t<|.inl t2⟩;dsimp only
   by_cases z:m<minrun
   ·rw[if_pos z];refine AE (wpS_lift<|At ⟨rfl, ?_⟩);refine AE<|aEo K S2.sb (by omega) (by omega) ha λst3 T3 ha3=> ?_;rw[if_neg<|by decide];refine yU K ⟨T3.sb,by rw[T3.pend];exact S2.runs.keep λt _ t2=>T3.keep t<|.inl t2⟩ (by omega) (by omega) ha3 λst4 S4=>⟨_,rfl,S4,by omega,.inl<|by omega⟩
   ·rw[if_neg z];exact yU K S2 m1 (by omega) ha λst4 S4=>⟨_,rfl,S4,by omega,.inl<|by omega⟩
 case post=>
  rintro c st' ⟨rfl,S⟩;dsimp only
  have pl:(AD st').size<=a₀.size:=by have:=S.runs.le;simpa using this
  refine AE<|AY (AS (I:=λx c st''=>c=(none,())/\SR κ r a₀ a₀.size st''/\(AD st'').size<=a₀.size-x) (Q:=λc st''=>c=(none,())/\SR κ r a₀ a₀.size st''/\(AD st'').size<=1) ?step2 ?fin2 ⟨rfl,S,by omega⟩) ?post2
  case fin2=>rintro c st'' ⟨rfl,S,h1⟩;exact⟨rfl,S,by omega⟩
  case step2=>
   rintro x c st'' _ hx ⟨rfl,S,h1⟩;unfold aIE;refine AE<|wpS_get ?_
   by_cases q:(AD st'').size<=1
   ·rw[if_pos q];exact AI ⟨rfl,S,q⟩
   ·rw[if_neg q];have go:∀i,i+1<(AD st'').size->wpS (AH prog w) A E s (mergeAt' i) (λb st'=>b=true/\SR κ r a₀ a₀.size st'/\(AD st').size<=a₀.size-(x+1)) st'':=λi hi=>aBv K S.sb S.runs (aO _) hi λst3 hB3 hr hs hk=>⟨rfl,⟨hB3,hr⟩,by omega⟩
    refine AE<|AY (go _ ?_) λb st3 hb=> ?_
    ·have bd:∀c:Bool,(if c=true then(AD st'').size-2-1 else(AD st'').size-2)+1<(AD st'').size:=λc=>by
      cases c
      ·rw[if_neg<|by decide];omega
      ·rw[if_pos rfl];omega
     exact bd _
    ·obtain⟨rfl,S3,h3⟩:=hb;rw[if_neg<|by decide];exact AI ⟨rfl,S3,h3⟩
  case post2=>
   rintro c st'' ⟨rfl,S,h1⟩;refine AI<|h st'' S.sb ?_;have R:=S.runs;generalize e:(AD st'').toList=l at R;have ll:l.length<=1:=by rw[<-e];simpa using h1
   match l,ll with
   |[],_=>have:0=a₀.size:=R;intro i j _ _ hj;omega
   |[p],_=>obtain⟨_,_,b,c⟩:=R;have c:0+p.2.1=a₀.size:=c;rw[c] at b;exact b
open PySem.W (KasT kas_sort kas_asc kas_desc kas_tail3 kas_descPart kas_count kas_place kas_bin kas_rev kas_ask kas_item kat_lt kat_cons kat_nil kat_yes kat_no kat_one kat_kind kat_run kat_snds KatTups)
open PySem.W (KasT kas_sort kas_asc kas_desc kas_tail3 kas_descPart kas_count kas_place kas_bin kas_rev)
open PySem.W (KasT kas_sort kas_asc kas_desc kas_tail3 kas_descPart kas_count kas_place kas_bin kas_rev kas_ask kas_item kat_lt kat_cons kat_nil kat_yes kat_no kat_one kat_kind kat_run kat_snds KatTups KatLex)
theorem wZ{α β:Type}{f:α->β}{l:List α}{l':List β}(h:l'.Perm (l.map f)):∃l2:List α,l2.Perm l/\l'=l2.map f:=by
 generalize hy:l.map f=y at h
 induction h generalizing l with
 |nil=>
  have:l=[]:=by simpa using hy
  subst this;exact⟨[],.refl _,rfl⟩
 |cons x p ih=>
  cases l with
  |nil=>simp at hy
  |cons a t=>simp only[aV,sK.injEq] at hy;obtain⟨l3,q1,q2⟩:=ih hy.2;exact⟨a::l3,q1.cons a,by rw[aV,hy.1,q2]⟩
 |swap x y l0=>
  match l,hy with
  |a::b::t,hy=>simp only[aV,sK.injEq] at hy;exact⟨b::a::t,List.Perm.swap a b t,by rw[aV,aV,hy.1,hy.2.1,hy.2.2]⟩
  |[a],hy=>simp at hy
  |[],hy=>simp at hy
 |trans p1 p2 ih1 ih2=>obtain⟨l3,q1,q2⟩:=ih2 hy;obtain⟨l4,r1,r2⟩:=ih1 q2.symm;exact⟨l4,r1.trans q1,r2⟩
variable {a b:Expr}
noncomputable def lN(k:List Key):D:=.tup<|k.map kD
noncomputable def lZ(h:BH)(a:BF)(vs:List BD):BH:=((h.update a<|Obj.mapSeq λ_=> #[]).push<|Af "tuple" vs.toArray 0).push<|Af "list" #[] 0
theorem pS(vs:List BD):(vs.toArray.zip vs.toArray).toList=vs.map λv=>(v,v):=by
 rw[Array.toList_zip];show vs.zip vs=_
 induction vs with
 |nil=>rfl
 |cons v vs ih=>rw[dA,ih];rfl
theorem aHR{rk:BD->Nat}{vs:List BD}(nd:(vs.map rk).Nodup)(hask:∀x∈vs,∀y∈vs,∀ (Q:Bool->BE->Prop) (E':BD->BE->Prop),Q (decide<|rk x<rk y) s->AK (AH prog w) A (keyLt' κ x y) Q E' s):jQ prog w A E s κ (λp=>rk p.1) (vs.toArray.zip vs.toArray):=by
 refine⟨λ{x y st Q} hx hy hk h=> ?_, ?_⟩
 ·rw[pS] at hx hy;obtain⟨u,hu,rfl⟩:=aX.mp hx;obtain⟨v,hv,rfl⟩:=aX.mp hy;rw[lt'_eq];refine AE<|wpS_get ?_;rw[hk];exact AE<|wpS_lift (wpAny_attempt<|hask u hu v hv _ _ ⟨rfl,AI h⟩)
 ·rw[pS,bH];exact nd
theorem vB{a:BF}{vs:List BD}{rk:BD->Nat}{R:PySem.Fin->BE->Prop}(ho:s.heap.get? a=some (Af "list" vs.toArray n))(nd:(vs.map rk).Nodup)(hn:vs.length<=10000)
  (hkind:2<=vs.length->∀ (Q:Aq->BE->Prop),Q κ ⟨lZ s.heap a vs,s.gens,s.drawn,s.toks,s.os⟩->AK (AH prog w) A (keyKind' vs.toArray) Q E ⟨lZ s.heap a vs,s.gens,s.drawn,s.toks,s.os⟩)
  (hask:∀x∈vs,∀y∈vs,∀ (Q:Bool->BE->Prop) (E':BD->BE->Prop),Q (decide<|rk x<rk y) ⟨lZ s.heap a vs,s.gens,s.drawn,s.toks,s.os⟩->AK (AH prog w) A (keyLt' κ x y) Q E' ⟨lZ s.heap a vs,s.gens,s.drawn,s.toks,s.os⟩)
  (h:∀out:Array BD,out.toList.Perm vs->(out.toList.map rk).Pairwise (·<·)->R (.done<|.ret .none) {s with heap:=sortedHeap s.heap a vs out}):AK (AH prog w) A (Builtin.«list.sort» ⟨[.ref a],[]⟩) R E s:=by
 have lt:a<s.heap.objs.size:=aP ho;have sz:vs.toArray.size=vs.length:=by simp
 obtain⟨n0,g1⟩:∃n0,(s.heap.update a<|Obj.mapSeq λ_=> #[]).get? a=some (Af "list" #[] n0):=⟨_,get?_update_seq ho λ_=> #[]⟩
 have n1:a≠((s.heap.update a<|Obj.mapSeq λ_=> #[]).push<|Af "tuple" vs.toArray 0).objs.size:=by rw[size_push',mE];exact bN<|rO lt
 have n2:a≠(s.heap.update a<|Obj.mapSeq λ_=> #[]).objs.size:=by rw[mE];exact bN lt
 have g6:(lZ s.heap a vs).get? a=some (Af "list" #[] n0):=by unfold lZ;rw[aFS _ _ _ n1,aFS _ _ _ n2,g1]
 rw[list_sort_plain];refine AA (listItems_at ho rfl<|AA (listUpdate_at ho rfl (AA (seqEpoch_at g1 rfl<|AA (wpAny_newTuple (AA (wpAny_newList (Ag ?_)<|bJ _))<|by show vs.length<=_;rw[Ap];omega))) (by rw[sz,Ap];omega)<|bJ _));show AK (AH prog w) A _ R E ⟨lZ s.heap a vs,s.gens,s.drawn,s.toks,s.os⟩;dsimp only
 by_cases h2:vs.toArray.size<2
 ·rw[if_pos h2,if_pos h2];refine AA<|AB ?_;rw[StateT.run_pure];refine AA (AB (AA<|seqEpoch_at g6 rfl (AA<|listUpdate_at g6 rfl ?_ (bJ _) ?_)))
  ·simp only[bne_self_eq_false,if_false,bR];refine AB ?_
   have e:Array.map (λ(x:AG)=>x.2) (AJ<|SortSt.mk' general' (vs.toArray.zip vs.toArray) #[] 7 none)=vs.toArray:=by apply rR.mp;rw[rS];show(vs.toArray.zip vs.toArray).toList.map _=vs;rw[pS,bH];exact lB _
   rw[e];refine h vs.toArray (.refl _) ?_;rw[sz] at h2
   match vs,h2 with
   |[],_=>exact .nil
   |[v],_=>exact iU _ _
  ·show(Array.map _<|vs.toArray.zip vs.toArray).size<=_;rw[Array.size_map,Array.size_zip,sz,Ap];omega
 ·rw[if_neg h2,if_neg h2];rw[sz] at h2;refine AA<|hkind (by omega) _ ?_;have K:jQ prog w A E ⟨lZ s.heap a vs,s.gens,s.drawn,s.toks,s.os⟩ κ (λp=>rk p.1) (vs.toArray.zip vs.toArray):=aHR nd hask;refine AA<|AW (aCw (Q:=λ_ st'=>SB κ (vs.toArray.zip vs.toArray) st'/\AscR (λp=>rk p.1) (AJ st') 0 (vs.toArray.zip vs.toArray).size) K (st:=SortSt.mk' κ (vs.toArray.zip vs.toArray) #[] 7 none) ⟨Array.Perm.refl _,rfl,rfl⟩ rfl λst' b c=>⟨b,c⟩) ?_ λ_ _ z=>z;rintro⟨⟨⟩,st'⟩ s' ⟨rfl,hB,hA⟩;dsimp only
  have pm:(AJ st').toList.Perm (vs.map λv=>(v,v)):=by
   have:=fK.mp hB.perm
   rwa[pS] at this
  have p2:((AJ st').map (·.2)).toList.Perm vs:=by rw[rS];have:=pm.map (·.2);rw[bH] at this;exact this.trans (List.Perm.of_eq<|lB _)
  have sO:((AJ st').map (·.2)).size=vs.length:=by
   have:=p2.length_eq
   rwa[bS] at this
  refine AA<|seqEpoch_at g6 rfl (AA<|listUpdate_at g6 rfl ?_ (bJ _) ?_)
  ·rw[hB.failed];simp only[bne_self_eq_false,if_false,bR];refine AB<|h _ p2 ?_;rw[rS,bH,yN];intro i j hi hj hij;rw[aB,bS] at hi hj;have q:=hA i j (bJ _) hij (by rw[<-hB.size];exact hj);rw[dF hi,dF hj] at q
   have d:∀p∈(AJ st').toList,p.1=p.2:=λp hp=>by obtain⟨v,_,rfl⟩:=aX.mp<|pm.mem_iff.mp hp;rfl
   rw[eA,eA];have d1:=d (AJ st')[i] (by simp);have d2:=d (AJ st')[j] (by simp);rw[d1,d2] at q;simpa using q
  ·rw[sO,Ap];omega
open PySem.W (kat_lt kat_cons kat_nil kat_yes kat_no kat_one kat_kind KatTups KatLex)
theorem aAL{l:BF}{vs:List BD}{rk:BD->Nat}{Q:BD->BE->Prop}(hl:s.heap.IsList l vs.toArray)(nd:(vs.map rk).Nodup)(hn:vs.length<=10000)
  (hkind:∀t:BE,(∀b o,s.heap.get? b=some o->t.heap.get? b=some o)->2<=vs.length->∀ (A':BG) (R:Aq->BE->Prop) (E':BD->BE->Prop),A'.units<=A.units+2->R κ t->AK (AH prog w) A' (keyKind' vs.toArray) R E' t)
  (hask:∀t:BE,(∀b o,s.heap.get? b=some o->t.heap.get? b=some o)->∀x∈vs,∀y∈vs,∀ (A':BG) (R:Bool->BE->Prop) (E':BD->BE->Prop),A'.units<=A.units+2->R (decide<|rk x<rk y) t->AK (AH prog w) A' (keyLt' κ x y) R E' t)
  (h:∀out:Array BD,out.toList.Perm vs->(out.toList.map rk).Pairwise (·<·)->Q (.ref<|s.heap.objs.size+1) {s with heap:=sortedAll s.heap vs out}):AK (AH prog w) A (call (.builtin "sorted") [.ref l]) Q E s:=by
 have hsz:((s.heap.push<|Af "list" #[] 0).update s.heap.objs.size (Obj.mapSeq (·++vs.toArray))).objs.size=s.heap.objs.size+1:=by rw[mE,size_push']
 have hoL:(((s.heap.push<|Af "list" #[] 0).update s.heap.objs.size (Obj.mapSeq (·++vs.toArray))).push<|Af "list" vs.toArray 0).get? (s.heap.objs.size+1)=some (Af "list" vs.toArray 0):=by rw[<-hsz];exact bO _ rfl
 have k2:∀b o,s.heap.get? b=some o->(((s.heap.push<|Af "list" #[] 0).update s.heap.objs.size (Obj.mapSeq (·++vs.toArray))).push<|Af "list" vs.toArray 0).get? b=some o:=λb o g=>by
  have nb:s.heap.objs.size≠b:=λz=>absurd (aP g) (by rw[<-z];exact eE _)
  refine aJ _ ?_;rw[cB _ _ nb];exact aJ _ g
 have k6:∀b o,s.heap.get? b=some o->(lZ (((s.heap.push<|Af "list" #[] 0).update s.heap.objs.size (Obj.mapSeq (·++vs.toArray))).push<|Af "list" vs.toArray 0) (s.heap.objs.size+1) vs).get? b=some o:=λb o g=>by
  have nb:s.heap.objs.size+1≠b:=λz=>by have:=aP g;rw[<-z] at this;exact absurd this (mV.mpr<|hX _)
  unfold lZ;refine aJ _<|aJ _ ?_;rw[cB _ _ nb];exact k2 b o g
 refine Calls.call_function_entry kind_sorted plain_sorted entry_sorted (args_sorted1<|.ref l) ?_;unfold Builtin.«sorted»;refine AA (m:=checkCount "sorted" 1 1 _) (AB<|AA (collect_list hl (AA (wpAny_newList ?_<|by rw[Ap];omega))<|by rw[Ap];omega));show AK _ _ _ _ _ ⟨((s.heap.push<|Af "list" #[] 0).update s.heap.objs.size (Obj.mapSeq (·++vs.toArray))).push<|Af "list" vs.toArray 0,s.gens,s.drawn,s.toks,s.os⟩;rw[hsz];refine AA (Ag (Ak slot_list_sort ⟨_,hoL,rfl⟩ entry_list_sort (vB (κ:=κ) (rk:=rk) (s:=⟨_,s.gens,s.drawn,s.toks,s.os⟩) hoL nd hn (λh2 R q=>hkind ⟨lZ (((s.heap.push<|Af "list" #[] 0).update s.heap.objs.size (Obj.mapSeq (·++vs.toArray))).push<|Af "list" vs.toArray 0) (s.heap.objs.size+1) vs,s.gens,s.drawn,s.toks,s.os⟩ k6 h2 _ R _ ?_ q) (λx hx y hy R E' q=>hask ⟨lZ (((s.heap.push<|Af "list" #[] 0).update s.heap.objs.size (Obj.mapSeq (·++vs.toArray))).push<|Af "list" vs.toArray 0) (s.heap.objs.size+1) vs,s.gens,s.drawn,s.toks,s.os⟩ k6 x hx y hy _ R E' ?_ q) λout p1 p2=>⟨_,rfl,AB ⟨_,rfl,h out p1 p2⟩⟩)<|args_list_sort _))
 all_goals simp only[Around.in1];omega
theorem aGz{fin b:Bool}{Q:Bool->BE->Prop}{r:List (BD×BD)}(x:xH A s fin r b):∀ {i:Nat},Q b s->KatLex prog w A false fin Q r i s:=by
 induction x with
 |nil=>intro i q;exact kat_nil q
 |eq he _ ih=>intro i q;exact kat_cons<|SeqAt.EqAt.of_in1 he prog w _ _ (kat_yes<|ih q)
 |@lt x y r b he hl=>intro i q;refine kat_cons (SeqAt.EqAt.of_in1 he prog w _ _<|kat_no ?_);rw[wJ];exact kat_one x y (wpAny_of_in1<|hl prog w _ _ q)
theorem sZ{α β:Type}{G:α->β->Prop}:∀ {l:List α}{m:List β}{n:Nat}{a:α},Paired G l m->l[n]? =some a->∃b,m[n]? =some b/\G a b
 |_,_,_,_,.nil,h=>by simp at h
 |_,_,0,_,.cons r _,h=>by cases h;exact⟨_,rfl,r⟩
 |_,_,n+1,_,.cons _ t,h=>sZ (n:=n) t (by simpa using h)
theorem pR{α β:Type}{G:α->β->Prop}:∀ {l:List α}{m:List β} (n:Nat),Paired G l m->Paired G (l.eraseIdx n) (m.eraseIdx n)
 |_,_,_,.nil=>.nil
 |_,_,0,.cons _ t=>t
 |_,_,n+1,.cons r t=>.cons r<|pR n t
def aMe(X:Cx):V->List V->Hp->VK->Prop:=λx vs H Q=>∃ (F:Hp) (l ad:BF) (k:List Key) (y:V) (n:Nat) (o:BI) (kvs:List (List Key×V)),x=.ref l/\vs=[.ref ad]/\Same F H/\H l=some (exO l o)/\F ad=some (.tup<|k.map kV)/\X.A.units+1<AQ/\
 TDo X.prog X.w F l o kvs/\kvs[n]? =some (k,y)/\(∀o',(∀v,o'.data≠ .cell v)->TDo X.prog X.w F l o' (kvs.eraseIdx n)->Q y (upd H l<|exO l o'))
theorem aJu:MtR X "dict.pop" (aMe X):=by
 intro pins s σ H x vs v us Q I rx rv h;obtain⟨F,l,ad,k,y,n,o,kvs,rfl,rfl,sF,hl,ha,hu,⟨z,hm,ts,kt,es,ep,t1,t2,t3,t4⟩,hn,q1⟩:=h;obtain rfl:v=Value.ref l:=rx;obtain⟨u,rfl,ru⟩:=Vals.one rv;obtain rfl:u=Value.ref ad:=ru;have ho:s.heap.get? l=some o:=(I.hok l _ hl).1;have ktH:KT H kvs ts:=kt.keeps λb ys e=>sF _ _ e
 have dd:s.heap.DictOfH (AN<|dG X.prog X.w) l ts:=⟨o,es,ep,ho,t1,t2,t3,KT.all I.hok ktH,t4⟩;have hz:ts.length<=AL:=by rw[<-Paired.length kt];exact z
 obtain⟨⟨k',b,w'⟩,hj,e1,_,rw'⟩:=sZ kt hn;have e1:k=k':=e1;subst e1;refine call_meetsIn yS dd.typeIs PySem.F.entry_dict_pop (PySem.F.args_dict_pop_2 _ _) (aAB (AN<|dG X.prog X.w) l ad) ⟨Al hu,k,ts,n,(b,w'),lH I.hok<|sF _ _ ha,dd,hz,hj,λh' dd' hsm=> ?_⟩;obtain⟨q,es',ep',hq,u2,u3,u4,_,u5⟩:=dd';have I4:=lO (t':=s.toks+(AN<|dG X.prog X.w).draws k) I (ob:=exO l q) (by rw[hl];exact True.intro) hsm ⟨q,hq⟩<|tY hq;exact⟨y,_,I4,rw',q1 q (λv z=>by rw[u3] at z;cases z) ⟨by have:=List.length_eraseIdx_le kvs n;omega,hm,_,pR n kt,es',ep',u2,u3,u4,u5⟩⟩
variable {e:Expr}{l:BF}{ls:List BF}{ks:List (List Key)}{dss:List (List D)}
theorem aHo(i:Nat)(hg:Gl X "len")(hm:X.mg "len"=none)(hs:sd[i]? =some (odG X.prog X.w X.K l ks ls dss))(hx:PE X (.Name x p2) (iX i))(hst:AC [.Name x p2] X.env=(false,eval (.Name x p2) X.env)::AC [] X.env:=by rfl):PEd X sd (.Call (.Name "len" p) [.Name x p2] [] pos) (.val<|.int (ks.length:Nat)):=.mk λσ F H S=>
 (jG vN hg hm PySem.boot_len (dE hx pa_nil hst) (by decide) (by decide) hst rfl).to (by
  obtain⟨hv,hF,⟨o,g1,nc,hl,z,sm,xs,kt,es,ep,t1,t2,t3,t4⟩,hI,nd⟩:=gM S hs;refine⟨.ref l,hv,l,o,es,ep,rfl,g1,t1,t2,sm, ?_,F,S,Same.refl _, ?_⟩
  ·have:=Av t3;have e2:=Paired.length kt;omega
  ·have:=Av t3;have e2:=Paired.length kt;have e3:(ks.zip<|ls.map V.ref).length=ks.length:=by rw[iP,aB,hl,mW]
   simp only[ResOk,Rep]
   rw[this,<-e2,e3])
theorem aBW{F:Hp}:∀ {kvs:List (List Key×V)}{xs:List (List Key×BF×BD)},KT F kvs xs->Vals (xs.map λq=>V.ref q.2.1) (xs.map λq=>Value.ref q.2.1)
 |_,_,.nil=>.nil
 |_,_,.cons _ t=>.cons rfl<|aBW t
theorem aEX{K:aA}{F:Hp}:∀ {kvs:List (List Key×V)}{xs:List (List Key×BF×BD)},KT F kvs xs->RepL K F ((kvs.map (·.1)).map lN) (xs.map λq=>V.ref q.2.1)
 |_,_,.nil=>.nil
 |_,_, @Paired.cons _ _ _ p q _ _ r t=>by refine .cons ?_ (aEX t);simp only[lN,Rep];refine⟨q.2.1,p.1.map kV,rfl,r.2.1, ?_⟩;exact pH _
theorem aDW(i:Nat)(hg:Gl X "list")(hm:X.mg "list"=none)(hs:sd[i]? =some (odG X.prog X.w X.K l ks ls dss))(hx:PE X (.Name x p2) (iX i))(hc:X.calm=true:=by rfl)(hst:AC [.Name x p2] X.env=(false,eval (.Name x p2) X.env)::AC [] X.env:=by rfl):PEd X sd (.Call (.Name "list" p) [.Name x p2] [] pos) (.own<|ks.map lN):=.mk λσ F H S pins s I=>by
 obtain⟨hv,hF,⟨o,g1,nc,hl,z,sm,xs,kt,es,ep,t1,t2,t3,t4⟩,hI,nd⟩:=gM S hs;refine Aa<|mL I hg hm PyProof.Rows.boot_list ?_;refine PyProof.Rows.callWith_type1 (thn ((dE hx pa_nil hst) pos pins s σ H (λus H1=>us=[.ref l]/\H1=H) I ⟨.ref l,hv,rfl,rfl⟩) λus s1 hus=> ?_) hst rfl;obtain⟨ws,H1,I1,rv,rfl,rfl⟩:=hus;obtain⟨u,rfl,ru⟩:=rD rv;cases(show u=Value.ref l from ru);have ez:es.size=xs.length:=Av t3
 have e3:(ks.zip<|ls.map V.ref).map (·.1)=ks:=by rw[List.map_fst_zip];rw[aB];omega
 have e2:xs.length=ks.length:=by have:=Paired.length kt;rw[iP,aB] at this;omega
 have ho:s1.heap.get? l=some o:=(I1.hok l _ g1).1;refine PySem.W.kdl_call (srcD sm t1 t2) (I1.ok.hd hc) ho (by have:=Paired.length kt;omega) λh' tk acc c' kp gl it=> ?_
 have al:acc=(xs.map λq=>Value.ref q.2.1).toArray:=by
  apply rR.mp;apply rJ;intro j
  by_cases hj:j<acc.toList.length
  ·have e4:acc.toList[j]? =some acc.toList[j]:=by simp[hj]
   obtain⟨u,q,ev⟩:=it.2 j acc.toList[j] (by rw[<-cS];exact e4);rw[e4,ev];rw[<-cS,t3,bB] at q;obtain⟨y,hy,ey⟩:=eD.mp q;rw[<-ey];simp[hy,entryOfKey]
  ·have a1:acc.toList.length=es.size:=by rw[bS];exact it.1
   rw[gN<|by omega,gN<|by simp;omega]
 subst al;have le2:s1.heap.objs.size<=s1.heap.objs.size:=aO _;have hD:H1 s1.heap.objs.size=none:=I1.hok.fresh le2
 have I4:Inv X pins σ (upd H1 s1.heap.objs.size (.lst<|xs.map λq=>V.ref q.2.1)) {s1 with heap:=h',toks:=tk}:=
  I1.laid kp le2 ⟨by rw[aB];have:=Paired.length kt;omega,_,c',aBW kt,gl⟩
 obtain⟨S4,fp,no⟩:=S.layO (xs:=xs.map λq=>V.ref q.2.1) hD;refine⟨.ref s1.heap.objs.size,_,I4,rfl,F,S4,Same.refl _,_,_,rfl,fp,bM, ?_,no⟩;have:=aEX (K:=X.K) kt;rw[e3] at this;exact this
noncomputable def jA(ds:List D):Nat:=AZ (λi k=>dlt (ds.getD i .non)<|ds.getD k .non)<|ds.length-1
structure aGf(X:Cx)(ds:List D):Prop where
 ne:0<ds.length
 cmp:∀d∈ds,∀d2∈ds,pX d d2=true
 pl:∀d∈ds,pl d=true
 dep:∀d∈ds,X.A.units+1+dep d<AQ
theorem aDb(hc:X.calm=true):kI X (.builtin "min") (λvs H Q=>∃ (a:BF) (xs:List V) (ds:List D),vs=[.ref a]/\SqL X.K H a xs/\RepL X.K H ds xs/\aGf X ds/\∀v,xs[jA ds]? =some v->Q v H):=by
 intro pins s σ H vs us Q I r h;obtain⟨a,xs,ds,rfl,ha,rl,M,q⟩:=h;obtain⟨u,rfl,rx⟩:=rD r;cases(show u=Value.ref a from rx);obtain⟨its,rv,p,hz⟩:=I.list ha;have hl:=rv.length;have hd:=rl.len;have isl:s.heap.IsList a its.toArray:=p.isList;have alt:a<s.heap.objs.size:=by obtain⟨o,ho,_⟩:=isl;exact aP ho
 refine aCU<|wpAny_pyIter_list isl ?_;refine⟨s.heap.objs.size,[s.heap.objs.size,a],[s.heap.objs.size],its.toArray.size,_,_,λh=>HOk X.prog X.w H h,λi k=>dlt (ds.getD i .non)<|ds.getD k .non,rfl,Walks.list (A:=X.A.in1) (I.ok.hd hc) _ a (bN alt) its.toArray,⟨⟨_,bO _ rfl,rfl,rfl⟩,isl.push _⟩,λb hb=> ?_,by simp;have:=M.ne;omega, ?_, ?_, ?_,λv h' tk pv k=> ?_⟩
 ·rw[wK];simp only[aR,eJ,or_false] at hb
  rcases hb with rfl|rfl
  ·exact mF _
  ·exact rO alt
 ·intro i k x y t Q' E' hJ hx hy q';have hx:its[i]? =some x:=by simpa using hx
  have hy:its[k]? =some y:=by simpa using hy
  have li:i<ds.length:=by have:=(aF.mp hx).1;omega
  have lk:k<ds.length:=by have:=(aF.mp hy).1;omega
  have ei:ds[i]? =some (ds.getD i .non):=by simp[cP,li]
  have ek:ds[k]? =some (ds.getD k .non):=by simp[cP,lk]
  obtain⟨v1,g1,r1⟩:=rl.get ei;obtain⟨v2,g2,r2⟩:=rl.get ek;obtain⟨u1,w1,z1⟩:=rv.get g1;obtain⟨u2,w2,z2⟩:=rv.get g2;rw[hx] at w1;rw[hy] at w2;cases w1;cases w2;have mi:=aN ei;have mk:=aN ek;exact aEY hJ (ds.getD i .non) (M.cmp _ mi _ mk) (M.pl _ mi) (M.pl _ mk) r1 r2 z1 z2 (by have:=M.dep _ mi;simp only[Around.in1];omega) X.prog X.w _ _ q'
 ·exact yA (cs:=[]) I.hok (λb u _ g=>aJ _ g) λb hb=>by cases hb
 ·intro h1 h2 j1 kp;refine yA (cs:=[s.heap.objs.size+1,s.heap.objs.size]) j1 (λb u hb g=>kp b u (λz=>hb ?_) g) λb hb=> ?_
  ·rw[wK] at z;exact z
  ·simp only[aR,eJ,or_false] at hb
   rcases hb with rfl|rfl
   ·exact I.hok.fresh<|hX _
   ·exact I.hok.fresh<|aO _
 ·have eb:AZ (λi k=>dlt (ds.getD i .non)<|ds.getD k .non) (its.toArray.size-1)=jA ds:=by unfold jA;rw[bC];congr 1;omega
  rw[eb] at pv;have pv:its[jA ds]? =some v:=by simpa using pv
  have lb:jA ds<xs.length:=by have:=(aF.mp pv).1;omega
  have ex:xs[jA ds]? =some xs[jA ds]:=by simp[lb]
  obtain⟨u,hu,ru⟩:=rv.get ex;rw[pv] at hu;cases hu;refine⟨xs[jA ds],H,I.kept (t':=tk) λb o g=>k b o (λz=> ?_)<|aJ _ g,ru,q _ ex⟩;have zb:b=s.heap.objs.size:=by simpa using z
  exact bN (aP g) zb
theorem aHE{d:D}(hg:Gl X "min")(hm:X.mg "min"=none)(ha:PEd X sd e (.bor ds))(M:aGf X ds)(hd:ds[jA ds]? =some d)(hc:X.calm=true:=by rfl)(hst:AC [e] X.env=(false,eval e X.env)::AC [] X.env:=by rfl):PEd X sd (.Call (.Name "min" p) [e] [] pos) (.val d):=
 sX (he:=hst) (aDb hc) hg hm boot_min (aG ha aW trivial hst) λσ F H vs Q S q k=>by
  cases q with
  |cons q1 q2=>cases q2;obtain⟨p,xs,rfl,hp,rl,_⟩:=q1;refine⟨p,xs,ds,rfl,.of hp,rl.mono S.sub,M,λv hv=>k v F H S (Same.refl _) ?_⟩;obtain⟨v',g,r'⟩:=rl.get hd;rw[hv] at g;cases g;exact r'
theorem vG{α β:Type}:∀ (a:List α) (b:List β) (n:Nat),a.length=b.length->(a.zip b).eraseIdx n=(a.eraseIdx n).zip (b.eraseIdx n)
 |[],[],_,_=>by simp
 |_::_,[],_,h=>by simp at h
 |[],_::_,_,h=>by simp at h
 |x::a,y::b,0,_=>rfl
 |x::a,y::b,n+1,h=>by show(x,y)::(a.zip b).eraseIdx n=(x,y)::(a.eraseIdx n).zip (b.eraseIdx n);rw[vG a b n<|by simpa using h]
theorem vT{α β:Type}(f:α->β):∀ (l:List α) (n:Nat),(l.eraseIdx n).map f=(l.map f).eraseIdx n
 |[],_=>by simp
 |_::_,0=>rfl
 |x::l,n+1=>by show f x::(l.eraseIdx n).map f=f x::(l.map f).eraseIdx n;rw[vT f l n]
theorem aCr{j:Nat}{z:Slot}{a:BF}(h:sd[j]? =some z)(ha:a∈fU z):a∈bV sd:=cW.mpr ⟨z,aN h,ha⟩
variable {H₀ F F' H':Hp}{i:Nat}{P:AF}
theorem StF.popG{o:BI}(n:Nat)(S:StF K H₀ F H σ sd)(hs:sd[i]? =some (odG P w K l ks ls dss))(nc:∀v,o.data≠ .cell v)(td:TDo P w F l o ((ks.zip<|ls.map V.ref).eraseIdx n)):
  StF K H₀ F (upd H l<|exO l o) σ (sd.set i (odG P w K l (ks.eraseIdx n) (ls.eraseIdx n)<|dss.eraseIdx n)):=by
 obtain⟨g1,g2,⟨o',g3,nc',hl,_⟩,g4,g5⟩:=gM S hs;obtain⟨n1,n2⟩:=bA.mp g5
 have sb:∀b,b∈l::ls.eraseIdx n->b∈l::ls:=λb hb=>by
  rcases aR.mp hb with h|h
  ·exact h▸aE
  ·exact aC _<|iL h
 refine S.reX (z':=odG P w K l (ks.eraseIdx n) (ls.eraseIdx n)<|dss.eraseIdx n) hs g1 (λb ob hb q=> ?_) (kZ S.smp l) (sW (λb hb=>g2 b<|sb b hb) bM nc ?_ ?_ ?_) ?_ λb hb=>.inl<|sb b hb
 ·rw[bD (show b≠l from λz=>hb<|z▸aE)];exact q
 ·rw[jN,jN,hl]
 ·rw[vT,<-vG _ _ _ (by rw[aB];exact hl)];exact td
 ·refine InD.erase n<|g4.mono2 (Same.refl _) λb hb ob q=> ?_;rw[bD (show b≠l from λz=>n1<|z▸hb)];exact q
 ·show(l::ls.eraseIdx n).Nodup;exact bA.mpr ⟨λh=>n1<|iL h,n2.sublist<|eG _ _⟩
open PySem.W (kat_lt kat_kind KatTups KatLex)
noncomputable abbrev Pr2:=List Int×List Int
noncomputable def p2D(x:Pr2):D:=.tup [bK x.1,bK x.2]
theorem aLw(x:Pr2):pl (p2D x)=true:=by show(pl (bK x.1)&&(pl (bK x.2)&&true))=true;rw[wY,wY];rfl
theorem uK:∀a b:List Int,vC (a.map D.int) (b.map D.int)=true
 |[],_=>rfl
 |_::_,[]=>rfl
 |x::a,y::b=>by show(true&&vC (a.map D.int) (b.map D.int))=true;rw[uK a b];rfl
theorem aJW(x y:Pr2):vC [bK x.1,bK x.2] [bK y.1,bK y.2]=true:=by show(vC (x.1.map D.int) (y.1.map D.int)&&(vC (x.2.map D.int) (y.2.map D.int)&&true))=true;rw[uK,uK];rfl
theorem zC{x:List Int}{v:V}(h:Rep K F (bK x) v):∃c,v=.ref c/\F c=some (.tup<|x.map V.int):=by simp only[bK,Rep] at h;obtain⟨c,ys,rfl,e,r⟩:=h;have:=(show RepL K F (x.map D.int) ys from r).ints;subst this;exact⟨c,rfl,e⟩
theorem xZ:∀ {x y:List Int},x.map V.int=y.map V.int->x=y
 |[],[],_=>rfl
 |[],_::_,h=>by cases h
 |_::_,[],h=>by cases h
 |a::x,b::y,h=>by
  rw[aV,aV] at h;injection h with h1 h2
  injection h1 with h1
  rw[h1,xZ h2]
theorem aFq{x:Pr2}{v:V}(h:Rep K F (p2D x) v):∃a c d,v=.ref a/\F a=some (.tup [.ref c,.ref d])/\F c=some (.tup<|x.1.map V.int)/\F d=some (.tup<|x.2.map V.int):=by simp only[p2D,Rep] at h;obtain⟨a,ys,rfl,e,r⟩:=h;obtain⟨v1,ys1,rfl,r1,t1⟩:=r.uncons;obtain⟨v2,ys2,rfl,r2,t2⟩:=t1.uncons;simp only[RepL] at t2;subst t2;obtain⟨c,rfl,f1⟩:=zC r1;obtain⟨d,rfl,f2⟩:=zC r2;exact⟨a,c,d,rfl,e,f1,f2⟩
theorem aAI{x y:Pr2}{v:V}(h:Rep K F (p2D x) v)(g:Rep K F (p2D y) v):x=y:=by obtain⟨a,c,d,rfl,e,f1,f2⟩:=aFq h;obtain⟨a',c',d',ea,e',f1',f2'⟩:=aFq g;cases ea;rw[e] at e';cases e';rw[f1] at f1';rw[f2] at f2';have h1:=xZ (HO.tup.inj<|bY.inj f1');have h2:=xZ (HO.tup.inj<|bY.inj f2');exact Prod.ext h1 h2
structure SrtP(A:BG)(ps:List Pr2)(rk:Pr2->Nat):Prop where
 len:ps.length<=10000
 lt:∀x∈ps,∀y∈ps,dlt (p2D x) (p2D y)=decide (rk x<rk y)
 nd:(ps.map rk).Nodup
 un:A.units+8<AQ
theorem aKn(x:Pr2):dep (p2D x)=2:=by show max (dep<|bK x.1) (max (dep<|bK x.2) 0)+1=2;rw[sQ,sQ];rfl
noncomputable def srE{α:Type}(hd:α->List D)(sn:α->D)(x:α):D:=.tup [.tup<|hd x,sn x]
structure aLN{α:Type}(A:BG)(K:aA)(hd:α->List D)(sn:α->D)(ps:List α)(rk:α->Nat):Prop where
 len:ps.length<=10000
 lt:∀x∈ps,∀y∈ps,nR [.tup<|hd x,sn x] [.tup<|hd y,sn y]=decide (rk x<rk y)
 nd:(ps.map rk).Nodup
 un:A.units+8<AQ
 pl:∀x∈ps,plL [.tup<|hd x,sn x]=true
 cm:∀x∈ps,∀y∈ps,vC [.tup<|hd x,sn x] [.tup<|hd y,sn y]=true
 dp:∀x∈ps,iY [.tup<|hd x,sn x]<=4
 inj:∀ (F:Hp) (x y:α) (v:V),Rep K F (srE hd sn x) v->Rep K F (srE hd sn y) v->x=y
theorem aBA{v:V}(h:Rep K F (.tup ds) v):∃a,v=.ref a:=by simp only[Rep] at h;obtain⟨a,_,rfl,_⟩:=h;exact⟨a,rfl⟩
variable {α:Type}{hd:α->List D}{sn:α->D}
theorem aAx:kI X (.builtin "sorted") (fun vs H Q=>∃ (a:BF) (xs:List V) (ps:List α) (rk:α→Nat),vs=[.ref a]∧H a=some (.lst xs)∧RepL X.K H (ps.map (srE hd sn)) xs∧aLN X.A X.K hd sn ps rk∧
  ∀ (D:BF) (ys:List V) (qs:List α),H D=none->qs.Perm ps->(qs.map rk).Pairwise (·<·)->(∀F,RepL X.K F (ps.map (srE hd sn)) xs->RepL X.K F (qs.map (srE hd sn)) ys)->Q (.ref D) (upd H D (.lst ys))):=by
 intro pins s σ H vs us Q I r h;obtain⟨a,xs,ps,rk,rfl,ha,rl,M,q⟩:=h;obtain⟨u,rfl,rx⟩:=rD r;cases(show u=Value.ref a from rx);obtain⟨z,its,n,rv,hl2,eo⟩:=I.lstM ha
 have tb:∀ {ps:List α}{xs:List V}{us:List BD},RepL X.K H (ps.map<|srE hd sn) xs->Vals xs us->∃T:List (α×BF),us=(T.map λr=>Value.ref r.2)/\xs=(T.map λr=>V.ref r.2)/\ps=(T.map λr=>r.1)/\∀r∈T,Rep X.K H ((srE hd sn) r.1) (.ref r.2):=by
  intro ps
  induction ps with
  |nil=>intro xs us r rv;rw[dJ] at r;simp only[RepL] at r;subst r;cases rv;exact⟨[],rfl,rfl,rfl,λr h=>(eJ h).elim⟩
  |cons x ps ih=>
   intro xs us r rv;rw[aV] at r;obtain⟨v,xs,rfl,a,rl⟩:=r.uncons;cases rv with
   |cons ru rv=>
    obtain⟨T,e1,e2,e3,t1⟩:=ih rl rv;obtain⟨b,rfl⟩:=aBA a;cases ru;refine⟨(x,b)::T,by rw[aV,<-e1],by rw[aV,<-e2],by rw[aV,<-e3],λr hr=> ?_⟩
    rcases aR.mp hr with rfl|hr
    ·exact a
    ·exact t1 r hr
 obtain⟨T,rfl,rfl,rfl,tr⟩:=tb rl rv
 obtain⟨rkW,hrk⟩:∃rkW:BD->Nat,∀r∈T,rkW (.ref r.2)=rk r.1:=by
  classical
  refine⟨λv=>if h:∃r∈T,v=Value.ref r.2 then rk h.choose.1 else 0,λr hr=> ?_⟩;have h:∃r'∈T,Value.ref r.2=Value.ref r'.2:=⟨r,hr,rfl⟩;show(if h:∃r'∈T,Value.ref r.2=Value.ref r'.2 then rk h.choose.1 else 0)=_;rw[dif_pos h]
  have e2:r.2=h.choose.2:=by have:=h.choose_spec.2;injection this
  have r2:=tr _ h.choose_spec.1;rw[<-e2] at r2;rw[M.inj _ _ _ _ r2<|tr r hr]
 have mT:∀ {r:α×BF},r∈T->r.1∈T.map λr=>r.1:=λh=>List.mem_map_of_mem (f:=λr:α×BF=>r.1) h
 have lT:T.length<=10000:=by simpa using M.len
 have mv:∀x∈(T.map λr=>Value.ref r.2),∃r∈T,x=Value.ref r.2:=λx hx=>by obtain⟨r,hr,e⟩:=aX.mp hx;exact⟨r,hr,e.symm⟩
 have ew:∀T':List (α×BF),(∀r∈T',r∈T)->(T'.map λr=>Value.ref r.2).map rkW=(T'.map λr=>r.1).map rk:=λT' h=>by rw[bH,bH];exact cA λr hr=>hrk r<|h r hr
 have hok':∀t:BE,(∀b o,s.heap.get? b=some o->t.heap.get? b=some o)->HOk X.prog X.w H t.heap:=λt k=>yA (cs:=[]) I.hok (λb u _ g=>k b u g) λb hb=>(eJ hb).elim
 refine aAL (l:=a) (vs:=T.map λr=>Value.ref r.2) (κ:=tuples' false) (rk:=rkW) ⟨_,eo,rfl,n,rfl⟩ (by rw[ew T λ_ h=>h];exact M.nd) (by rw[aB];exact lT) (λt kp h2 A' R E' _ hR=> ?_) (λt kp x hx y hy A' R E' hA hR=> ?_) λout p1 p2=> ?_
 ·have ok:=hok' t kp
  have kt:∀T':List (α×BF),(∀r∈T',r∈T)->∃fs:List BD,KatTups t.heap (T'.map λr=>Value.ref r.2) fs/\fs.length=T'.length/\∀v∈fs,∃c o,v=.ref c/\t.heap.get? c=some o/\o.cls=.type "tuple":=λT'=>by
   induction T' with
   |nil=>exact λ_=>⟨[],.nil,rfl,λv hv=>(eJ hv).elim⟩
   |cons r T' ih=>
    intro h;obtain⟨fs,k,l,i⟩:=ih λr hr=>h r<|aC _ hr
    have rr:=tr r<|h r aE;obtain⟨b,ys,its,e1,e2,r2,v2,o,g,c,n',hd1⟩:=iH ok rr (show RelV (.ref r.2) (.ref r.2) from rfl);cases e1;cases e2;have r2:RepL X.K H [.tup<|hd r.1,sn r.1] ys:=r2;obtain⟨w1,ys1,rfl,q1,t1⟩:=r2.uncons;obtain⟨w2,ys2,rfl,q2,t2⟩:=t1.uncons;simp only[RepL] at t2;subst t2;obtain⟨c1,rfl⟩:=aBA q1;cases v2 with
    |cons ru1 v2=>
     cases ru1;obtain⟨b1,ys1,its1,e3,e4,_,_,o1,g1,cc1,_⟩:=iH ok q1 (show RelV (.ref c1) (.ref c1) from rfl);cases e3;refine⟨.ref c1::fs,KatTups.cons g c hd1 (by simp) k,by rw[bL,bL,l],λv hv=> ?_⟩
     rcases aR.mp hv with rfl|hv
     ·cases e4;exact⟨_,o1,rfl,g1,cc1⟩
     ·exact i v hv
  obtain⟨fs,k,l,i⟩:=kt T λ_ h=>h
  rw[aB] at h2;refine kat_kind (T:=.type "tuple") k (by omega) (λv hv=> ?_) rfl hR;obtain⟨c,o,rfl,g,e⟩:=i v hv;have:PySem.W.Looks (AH X.prog X.w) t.heap (typeOf<|.ref c) o.cls:=(PySem.W.Looks.ld g).andThen .now;rw[e] at this;exact this
 ·have ok:=hok' t kp;obtain⟨rx,hrx,rfl⟩:=mv x hx;obtain⟨ry,hry,rfl⟩:=mv y hy;obtain⟨b,ys,its,e1,e2,r2,v2,o,g,c,n',hd1⟩:=iH ok (tr rx hrx) (show RelV (.ref rx.2) (.ref rx.2) from rfl);cases e1;cases e2;obtain⟨b',ys',its',e1,e2,r2',v2',o',g',c',n'',hd'⟩:=iH ok (tr ry hry) (show RelV (.ref ry.2) (.ref ry.2) from rfl);cases e1;cases e2;have r2:RepL X.K H [.tup<|hd rx.1,sn rx.1] ys:=r2;have r2':RepL X.K H [.tup<|hd ry.1,sn ry.1] ys':=r2';have l1:its.length=2:=by rw[<-v2.length,r2.len];rfl
  have l2:its'.length=2:=by rw[<-v2'.length,r2'.len];rfl
  refine kat_lt g hd1 g' hd'<|aGz (A:=A') (b:=nR [.tup<|hd rx.1,sn rx.1] [.tup<|hd ry.1,sn ry.1]) ?_ ?_
  ·refine aBl ok [.tup<|hd rx.1,sn rx.1] (es:=[.tup<|hd ry.1,sn ry.1]) ?_ ?_ ?_ r2 r2' v2 v2' ?_ (by simp[l1,l2])
   ·exact M.cm _ (mT hrx) _<|mT hry
   ·exact M.pl _<|mT hrx
   ·exact M.pl _<|mT hry
   ·have:=M.un;have:=M.dp _<|mT hrx;omega
  ·have e:nR [.tup<|hd rx.1,sn rx.1] [.tup<|hd ry.1,sn ry.1]=decide (rkW (.ref rx.2)<rkW (.ref ry.2)):=by rw[hrk rx hrx,hrk ry hry];exact M.lt _ (mT hrx) _ (mT hry)
   rw[e];exact hR
 ·obtain⟨T',q1,q2⟩:=wZ (f:=λr:α×BF=>Value.ref r.2) (l:=T) (l':=out.toList) p1
  have eo2:out=(T'.map λr=>Value.ref r.2).toArray:=by apply rR.mp;rw[q2]
  rw[q2,ew T' λr hr=>q1.mem_iff.mp hr] at p2;subst eo2;obtain⟨kp,n2,g2⟩:=aDI s.heap (T.map λr=>Value.ref r.2) (T'.map λr=>Value.ref r.2).toArray;have hD:H (s.heap.objs.size+1)=none:=I.hok.fresh<|hX _;have lT':T'.length=T.length:=q1.length_eq
  have vv:Vals (T'.map λr=>V.ref r.2) (T'.map λr=>Value.ref r.2):=by
   generalize T'=U
   induction U with
   |nil=>exact .nil
   |cons r U ih=>exact .cons rfl ih
  have I3:Inv X pins σ (upd H (s.heap.objs.size+1) (.lst<|T'.map λr=>V.ref r.2)) {s with heap:=sortedAll s.heap (T.map λr=>Value.ref r.2) (T'.map λr=>Value.ref r.2).toArray}:=
   I.laid (t':=s.toks) kp (hX _) ⟨by rw[Ap,aB];omega,_,n2,vv,by simpa[Af] using g2⟩
  refine⟨.ref<|s.heap.objs.size+1,_,I3,rfl,q _ (T'.map λr=>V.ref r.2) (T'.map λr=>r.1) hD (q1.map _) p2 λF rF=> ?_⟩
  have all:∀ {U:List (α×BF)},RepL X.K F ((U.map λr=>r.1).map<|srE hd sn) (U.map λr=>V.ref r.2)->∀r∈U,Rep X.K F ((srE hd sn) r.1) (.ref r.2):=λ{U}=>by
   induction U with
   |nil=>exact λ_ r hr=>(eJ hr).elim
   |cons y U ih=>
    intro h r hr;rw[aV,aV,aV] at h;obtain⟨v,vs,e,a1,a2⟩:=h.uncons;cases e
    rcases aR.mp hr with rfl|hr
    ·exact a1
    ·exact ih a2 r hr
  have aT:=all rF;have rT:∀r∈T',Rep X.K F ((srE hd sn) r.1) (.ref r.2):=λr hr=>aT r<|q1.mem_iff.mp hr
  clear vv I3 g2 p2 q1 q2 p1 lT' kp
  induction T' with
  |nil=>exact .nil
  |cons r U ih=>exact .cons (rT r aE) (ih λq hq=>rT q<|aC _ hq)
theorem SrtP.gen{ps:List Pr2}{rk:Pr2→Nat}(M:SrtP A ps rk):aLN A K (fun x:Pr2=>x.1.map D.int) (fun x=>bK x.2) ps rk:=⟨M.len,M.lt,M.nd,M.un,fun x _=>aLw x,fun x _ y _=>aJW x y,fun x _=>by
 have:=aKn x;have:iY [bK x.1,bK x.2]+1=2:=this;show iY [bK x.1,bK x.2]<=4
 omega,λF x y v h1 h2=>aAI h1 h2⟩
theorem aAA:kI X (.builtin "sorted") (fun vs H Q=>∃ (a:BF) (xs:List V) (ps:List Pr2) (rk:Pr2→Nat),vs=[.ref a]∧H a=some (.lst xs)∧RepL X.K H (ps.map p2D) xs∧SrtP X.A ps rk∧
  ∀ (D:BF) (ys:List V) (qs:List Pr2),H D=none->qs.Perm ps->(qs.map rk).Pairwise (·<·)->(∀F,RepL X.K F (ps.map p2D) xs->RepL X.K F (qs.map p2D) ys)->Q (.ref D) (upd H D (.lst ys))):=by
 intro pins s σ H vs us Q I r h;obtain⟨a,xs,ps,rk,h1,h2,h3,M,q⟩:=h;exact aAx pins s σ H vs us Q I r ⟨a,xs,ps,rk,h1,h2,h3,M.gen,q⟩
variable {k:List Key}{E:gY}{ps:List Pr2}{rk:Pr2->Nat}
theorem aEs(i j n:Nat){y:Str}{px py ap:Pos}(hu:X.A.units+1<AQ)(hg:Gl X "sorted")(hm:X.mg "sorted"=none)(hs:sd[i]? =some (odG X.prog X.w X.K l ks ls dss))(hx:PE X (.Name x px) (iX i))(hb:PEd X sd b (.val (.tup<|k.map kD)))(hk:ks[n]? =some k)(hd:dss[n]? =some (ps.map p2D))(M:SrtP X.A ps rk)
  (hN:X.N.Nodup) (hj:X.N[j]? =some y) (hy:Loc X.env.scope y)
  (hE:∀ (l':BF) (qs:List Pr2),qs.Perm ps->(qs.map rk).Pairwise (·<·)->E.nx ((sd.set i (odG X.prog X.w X.K l (ks.eraseIdx n) (ls.eraseIdx n)<|dss.eraseIdx n)).set j (.own l'<|qs.map p2D)))
  (hpop:PE X (.Call (.Attribute (.Name x px) "pop" ap) [b] [] cp) (λσ H Q=>iX i σ H λv H1=>(∃l ob,v=.ref l/\H1 l=some (exO l ob)/\ob.ExactDict)/\(kH (wE X b) sT) σ H1 λxs H2=>aMe X v xs H2 Q):=by exact aIw iM yS PySem.F.type_dict_pop aJu (pv _) (dE fG pa_nil))
  (hst:AC [.Call (.Attribute (.Name x px) "pop" ap) [b] [] cp] X.env=(false,eval (.Call (.Attribute (.Name x px) "pop" ap) [b] [] cp) X.env)::AC [] X.env:=by rfl)
  (hsw:AV (.Call (.Name "sorted" p) [.Call (.Attribute (.Name x px) "pop" ap) [b] [] cp] [] p2) (some<|.Name y py) pos.line X.env=pure false:=by rfl)
  (hf:X.fn y=true\/X.env.scope.names.lookup y=some .local:=by first|exact .inl rfl|exact .inr rfl|assumption):
  PSd1 X sd (.Assign [.Name y py] (.Call (.Name "sorted" p) [.Call (.Attribute (.Name x px) "pop" ap) [b] [] cp] [] p2) pos) E:=.mk λσ F H S=>
 (mK hN hj hy (jG aAA hg hm boot_sorted (dE hpop pa_nil hst) (by decide) (by decide) hst rfl) hsw hf).to (by
  obtain⟨h1,h2,⟨o,h3,nc,hk2,td⟩,h4,h5⟩:=gM S hs;refine⟨.ref l,h1,⟨l,o,rfl,h3,td.2.2.choose_spec.2.choose_spec.choose_spec.1⟩,(hb σ F H S).imp λv1 H1 ⟨F1,S1,s1,q1⟩=> ?_⟩;obtain⟨g1,g2,⟨o2,g3,nc2,hk3,td2⟩,g4,g5⟩:=gM S1 hs;obtain⟨n1,n2⟩:=bA.mp g5;simp only[ResOk,Rep] at q1;obtain⟨ad,ys,rfl,ha,rl⟩:=q1;rw[mS rl] at ha;have nl:n<ls.length:=by have:=(aF.mp hk).1;omega
  have e3:ls[n]? =some ls[n]:=by simp[nl]
  generalize ls[n]=an at e3;obtain⟨ds,xs,d1,d2,d3⟩:=g4.get e3;rw[hd] at d1;cases d1;have anl:an≠l:=λz=>n1<|z▸aN e3
  have zg:(ks.zip<|ls.map V.ref)[n]? =some (k,V.ref an):=by rw[kR];exact⟨hk,by rw[bB,e3];rfl⟩
  refine⟨F1,l,ad,k,.ref an,n,o2,ks.zip<|ls.map V.ref,rfl,rfl,S1.sub,g3,ha,hu,td2,zg,λo' nc' td'=> ?_⟩;have S2:=S1.popG n hs nc' td';refine⟨an,xs,ps,rk,rfl,by rw[bD anl];exact d2,d3.mono S2.sub,M,λD ys qs hD pm pw hr=> ?_⟩;obtain⟨S3,fp,no⟩:=S2.layO (xs:=ys) hD
  exact⟨_,F1,S3.setO j fp bM (hr F1 d3) no,s1,hE D qs pm pw⟩)
theorem InD.snocL{K:aA}{F H:Hp}{a:BF}{ds:List D}{xs:List V}:∀ {as:List BF}{dss:List (List D)},InD K F H as dss->H a=some (.lst xs)->RepL K F ds xs->InD K F H (as++[a]) (dss++[ds])
 |[],[],_,e,r=>⟨⟨xs,e,r⟩,trivial⟩
 |[],_::_,h,_,_=>h.elim
 |_::_,[],h,_,_=>h.elim
 |_::_,_::_,h,e,r=>⟨h.1,InD.snocL h.2 e r⟩
theorem StF.newW{a:BF}{o:BI}{xs:List V}(S:StF K H₀ F H σ sd)(hs:sd[i]? =some (odG P w K l ks ls dss))(fa:F a=none)(ha:H a=some (.lst xs))(rl:RepL K F ds xs)(na:a∉bV sd)(nc:∀v,o.data≠ .cell v)(td:TDo P w F l o (ks.zip (ls.map V.ref)++[(k,.ref a)])):
  StF K H₀ F (upd H l<|exO l o) σ (sd.set i (odG P w K l (ks++[k]) (ls++[a])<|dss++[ds])):=by
 obtain⟨g1,g2,⟨o',g3,nc',hl,_⟩,g4,g5⟩:=gM S hs;obtain⟨n1,n2⟩:=bA.mp g5;have ml:∀b∈l::ls,b∈bV sd:=λb hb=>aCr hs hb
 have al:a≠l:=λz=>na<|z▸ml l aE
 have als:a∉ls:=λz=>na (ml a<|aC _ z)
 have sp:∀b,b∈l::(ls++[a])->b∈l::ls\/b=a:=λb hb=>by
  rcases aR.mp hb with h|h
  ·exact .inl<|h▸aE
  ·rcases aK.mp h with h|h
   ·exact .inl<|aC _ h
   ·exact .inr<|aD.mp h
 refine S.reX (z':=odG P w K l (ks++[k]) (ls++[a])<|dss++[ds]) hs g1 (λb ob hb q=> ?_) (kZ S.smp l) (sW (λb hb=> ?_) bM nc (by rw[aM,aM,hl];rfl) ?_ ?_) ?_ λb hb=> ?_
 ·rw[bD (show b≠l from λz=>hb<|z▸aE)];exact q
 ·rcases sp b hb with h|rfl
  ·exact g2 b h
  ·exact fa
 ·rw[aU,aV,dJ,qS<|by rw[aB];exact hl];exact td
 ·refine InD.snocL (g4.mono2 (Same.refl _) λb hb ob q=> ?_) ?_ rl
  ·rw[bD (show b≠l from λz=>n1<|z▸hb)];exact q
  ·rw[bD al];exact ha
 ·show(l::(ls++[a])).Nodup;refine bA.mpr ⟨λh=> ?_,aY.mpr ⟨n2,by simp,λb hb c hc e=>als<|aD.mp hc▸e▸hb⟩⟩
  rcases aK.mp h with h|h
  ·exact n1 h
  ·exact al (aD.mp h).symm
 ·rcases sp b hb with h|rfl
  ·exact .inl h
  ·exact .inr na
theorem aEt(i:Nat){q1 q2 tp:Pos}{c c':Int}{j1 j2 x1:Nat}(hu:X.A.units+1<AQ)(hs:sd[i]? =some (odG X.prog X.w X.K l ks ls dss))(hx:PE X (.Name x p) (iX i))(h:PEd X sd e (.own ds))(hk:([Sum.inl c,Sum.inl c']:List Key)∉ks)(hl:dss.length<=10000)
  (hE:∀a,E.nx<|sd.set i (odG X.prog X.w X.K l (ks++[[Sum.inl c,Sum.inl c']]) (ls++[a])<|dss++[ds]))
  (hb:PE X (.Tuple [.Constant (.int c) j1 q1, .Constant (.int c') j2 q2] x1 tp) (aLR (kH (tC<|.int c)<|kH (tC<|.int c') sT)):=by exact aBh (dE pe_int<|dE pe_int pa_nil))
  (hsw:AV e (some<|.Subscript (.Name x p) (.Tuple [.Constant (.int c) j1 q1, .Constant (.int c') j2 q2] x1 tp) p2) pos.line X.env=pure false:=by rfl):PSd1 X sd (.Assign [.Subscript (.Name x p) (.Tuple [.Constant (.int c) j1 q1, .Constant (.int c') j2 q2] x1 tp) p2] e pos) E:=.mk λσ F H S pins s I=>by
 refine wpAny_Assign_Subscript (thn (h σ F H S pins s I) λr s1 ⟨v,H1,I1,rv,F1,S1,sF1,q1⟩=> ?_) hsw;obtain⟨a,xs,rfl,fa,ha,rl,na⟩:=q1;obtain rfl:r=Value.ref a:=rv;obtain⟨h1,_⟩:=gM S1 hs;refine thn (hx pins s1 σ H1 (λv H2=>v=.ref l/\H2=H1) I1 ⟨.ref l,h1,rfl,rfl⟩) λu s2 ⟨y,H2,I2,ry,e1,e2⟩=> ?_
 subst e1 e2;obtain rfl:u=Value.ref l:=ry;refine thn (hb pins s2 σ H2 (λv H3=>∃ad,v=.ref ad/\H2 ad=none/\H3=upd H2 ad (.tup [.int c,.int c'])) I2 ⟨by show 2<=AL;decide,λad had=>⟨ad,rfl,had,rfl⟩⟩) λiv s3 ⟨y,H3,I3,ry,ad,e1,fad,e3⟩=> ?_
 subst e1 e3;obtain rfl:iv=Value.ref ad:=ry;obtain⟨S3,sF3⟩:=S1.lay (o:=.tup [.int c,.int c']) fad trivial;have ada:a≠ad:=λz=>by rw[z,fad] at ha;cases ha
 have fa3:upd F1 ad (.tup [.int c,.int c']) a=none:=by rw[bD ada];exact fa
 have ha3:upd H2 ad (.tup [.int c,.int c']) a=some (.lst xs):=by rw[bD ada];exact ha
 obtain⟨g1,g2,⟨o,g3,nc,hkl,z,hm,ts,kt,es,ep,t1,t2,t3,t4⟩,g4,g5⟩:=gM S3 hs;have had:upd F1 ad (.tup [.int c,.int c']) ad=some (.tup<|([Sum.inl c,Sum.inl c']:List Key).map kV):=bM;have ho:s3.heap.get? l=some o:=(I3.hok l _ g3).1;have ktH:=kt.keeps λb ys e=>S3.sub _ _ e
 have dd:s3.heap.DictOfH (AN<|dG X.prog X.w) l ts:=⟨o,es,ep,ho,t1,t2,t3,KT.all I3.hok ktH,t4⟩;have hz:ts.length<=AL:=by rw[<-Paired.length kt];exact z
 have zl:(ks.zip<|ls.map V.ref).length=dss.length:=by rw[iP,aB,<-hkl,mW,hkl,g4.len]
 have vn:eK (ks.zip<|ls.map V.ref) [Sum.inl c,Sum.inl c']=none:=vX hk λ_ z=>z
 have hl2:(pG (ks.zip<|ls.map V.ref) [Sum.inl c,Sum.inl c']<|.ref a).length<=AL:=by rw[mO _ vn,aM,zl];have:=eV hl;show dss.length+1<=AL;omega
 refine wpAny_setItem_heap (hsz:=hz) (Al hu) (lH I3.hok<|S3.sub _ _ had) dd λh' dd' hsm=> ?_
 obtain⟨q,es',ep',hq,u2,u3,u4,_,u5⟩:=dd';have I4:=lO (t':=s3.toks+(AN<|dG X.prog X.w).draws [Sum.inl c,Sum.inl c']) I3 (ob:=exO l q) (by rw[g3];exact True.intro) hsm ⟨q,hq⟩<|tY hq;have kt':=kt.put [Sum.inl c,Sum.inl c'] had (show RelV (.ref a) (.ref a) from rfl);rw[mO _ vn] at kt' hl2;exact⟨σ,_,I4,_,_,S3.newW (o:=q) (k:=[Sum.inl c,Sum.inl c']) hs fa3 ha3 (rl.mono sF3) na (λv z=>by rw[u3] at z;cases z) ⟨hl2,hm,_,kt',es',ep',u2,u3,u4,u5⟩,sF1.trans sF3,hE a⟩
noncomputable def rkK(r:Int×Int):List Key:=[Sum.inl r.1,Sum.inl r.2]
theorem aGN{a b:Int×Int}(h:rkK a=rkK b):a=b:=by
 unfold rkK at h;injection h with h1 h2
 injection h2 with h2 _
 injection h1 with h1
 injection h2 with h2
 exact Prod.ext h1 h2
noncomputable abbrev WtT:=List<|(Int×Int)×List Pr2
structure Wt where
 l:BF
 ls:List BF
 T:WtT
noncomputable def wtK(T:WtT):List (List Key):=T.map λt=>rkK t.1
noncomputable def wtD(T:WtT):List (List D):=T.map λt=>t.2.map p2D
noncomputable def wtS(P:AF)(w:AM)(K:aA)(a:Wt):Slot:=odG P w K a.l (wtK a.T) a.ls<|wtD a.T
noncomputable def wtL(P:AF)(w:AM)(K:aA):Lent K:=⟨Wt,Wt.l,λa=>a.l::a.ls,λa=>Gg P w K a.l (wtK a.T) a.ls<|wtD a.T,λh=>h.1⟩
theorem aDM(P:AF)(w:AM)(K:aA)(a:Wt)(v:V)(F H:Hp)(b:BF)(o:HO)(h:(wtL P w K).G a v F H)(hb:b∈(wtL P w K).own a)(e:H b=some o):¬ xJ o:=by
 obtain⟨_,⟨ob,g,_⟩,hI⟩:=h
 rcases aR.mp (show b∈a.l::a.ls from hb) with rfl|hb
 ·rw[g] at e;cases e;exact λz=>z
 ·obtain⟨xs,g2⟩:=InD.of hI b hb;rw[g2] at e;cases e;exact λz=>z
noncomputable def iW:WtT->Int×Int->Pr2->WtT
 |[],r,x=>[(r,[x])]
 |t::T,r,x=>if t.1=r then(t.1,t.2++[x])::T else t::iW T r x
theorem tR{r:Int×Int}(x:Pr2):∀ {T:WtT},rkK r∉wtK T->iW T r x=T++[(r,[x])]
 |[],_=>rfl
 |t::T,h=>by
  have h1:t.1≠r:=λe=>h (by unfold wtK;rw[aV,e];exact aE)
  show(if t.1=r then _ else t::iW T r x)=_;rw[if_neg h1,tR x (T:=T) λz=>h<|aC _ z];rfl
theorem tQ{r:Int×Int}(x:Pr2):∀ {T:WtT}{n:Nat}{ds:List D},(wtK T).Nodup->(wtK T)[n]? =some (rkK r)->(wtD T)[n]? =some ds->wtK (iW T r x)=wtK T/\wtD (iW T r x)=(wtD T).set n (ds++[p2D x])
 |[],n,ds,_,h,_=>by simp[wtK] at h
 |t::T,0,ds,nd,h,hd=>by
  have e:t.1=r:=aGN (by simpa[wtK] using h);have e2:t.2.map p2D=ds:=by simpa[wtD] using hd
  have ea:iW (t::T) r x=(t.1,t.2++[x])::T:=if_pos e;rw[ea];refine⟨rfl, ?_⟩;show((t.2++[x]).map p2D)::wtD T=((t.2.map p2D)::wtD T).set 0 _;rw[aU,e2];rfl
 |t::T,n+1,ds,nd,h,hd=>by
  have nd':=bA.mp (show(rkK t.1::wtK T).Nodup from nd);have h':(wtK T)[n]? =some (rkK r):=by simpa[wtK] using h
  have hd':(wtD T)[n]? =some ds:=by simpa[wtD] using hd
  have ne:t.1≠r:=λe=>nd'.1<|e▸aN h'
  have ea:iW (t::T) r x=t::iW T r x:=if_neg ne;obtain⟨k1,k2⟩:=tQ x nd'.2 h' hd';rw[ea];refine⟨by show rkK t.1::wtK (iW T r x)=rkK t.1::wtK T;rw[k1], ?_⟩;show t.2.map p2D::wtD (iW T r x)=(t.2.map p2D::wtD T).set (n+1) _;rw[k2];rfl
theorem aHk{r:Int×Int}(x:Pr2){T:WtT}(nd:(wtK T).Nodup):(wtK<|iW T r x).Nodup:=by
 by_cases h:rkK r∈wtK T
 ·obtain⟨n,hn⟩:=cZ h
  have ln:n<T.length:=by have:=(aF.mp hn).1;simpa[wtK] using this
  obtain⟨ds,hd⟩:∃ds,(wtD T)[n]? =some ds:=⟨_,by unfold wtD;rw[bB,dW ln];rfl⟩;rw[(tQ x nd hn hd).1];exact nd
 ·rw[tR x h];unfold wtK;rw[aU];refine aY.mpr ⟨nd,by simp,λa ha b hb e=>h ?_⟩;have q:b=rkK r:=by simpa using hb
  rw[<-q,<-e];exact ha
noncomputable def tot(T:WtT):Nat:=(T.map λt=>t.2.length+1).sum
theorem aBQ(r:Int×Int)(x:Pr2):∀T:WtT,tot (iW T r x)<=tot T+2
 |[]=>by simp[tot,iW]
 |t::T=>by
  have ih:=aBQ r x T;show tot (if t.1=r then(t.1,t.2++[x])::T else t::iW T r x)<=_
  split
  ·simp[tot];omega
  ·simp[tot] at ih ⊢;omega
theorem aHa(T:WtT):T.length<=tot T:=by
 induction T with
 |nil=>exact aO _
 |cons t T ih=>simp[tot] at ih ⊢;omega
theorem aGP{T:WtT}:∀ds∈wtD T,ds.length<=tot T:=by
 induction T with
 |nil=>exact λds h=>(eJ h).elim
 |cons t T ih=>
  intro ds h
  rcases aR.mp (show ds∈t.2.map p2D::wtD T from h) with rfl|h
  ·rw[aB];simp[tot];omega
  ·have:=ih ds h;simp[tot] at this ⊢;omega
noncomputable def nP(x:List Nat×List Nat):Pr2:=(x.1.map λ(i:Nat)=>(i:Int),x.2.map λ(i:Nat)=>(i:Int))
theorem aKN(x:List Nat×List Nat):p2D (nP x)=.tup [.tup<|cN x.1,.tup<|cN x.2]:=by unfold p2D nP bK cN;rw[bH,bH];rfl
noncomputable def lgQ(p:Int×Int)(L:List SK)(b:Int)(r:Int×Int)(row nb:List Nat):Nat->WtT->WtT
 |0,T=>T
 |t+1,T=>if r.1+(L.getD t AR).2<=b then iW (lgQ p L b r row nb t T) (r.1+(L.getD t AR).2,r.2+1) (nP (row++[t],iB (iO p (L.getD t AR).1) nb)) else lgQ p L b r row nb t T
theorem aDz{p:Int×Int}{L:List SK}{b:Int}{r:Int×Int}{row nb:List Nat}{T:WtT}(nd:(wtK T).Nodup):∀t,(wtK<|lgQ p L b r row nb t T).Nodup
 |0=>nd
 |t+1=>by
  unfold lgQ
  split
  ·exact aHk _<|aDz nd t
  ·exact aDz nd t
theorem aFr{p:Int×Int}{L:List SK}{b:Int}{r:Int×Int}{row nb:List Nat}{T:WtT}:∀t,tot (lgQ p L b r row nb t T)<=tot T+2*t
 |0=>aO _
 |t+1=>by
  have ih:=aFr (p:=p) (L:=L) (b:=b) (r:=r) (row:=row) (nb:=nb) (T:=T) t;unfold lgQ
  split
  ·have:=aBQ (r.1+(L.getD t AR).2,r.2+1) (nP (row++[t],iB (iO p (L.getD t AR).1) nb))<|lgQ p L b r row nb t T;omega
  ·omega
def aKZ(a:Wt)(ds:List D)(post:Wt->Prop):Prop:=∃p L b r row nb,p∈cG/\L.length<=100/\NOk p nb/\row.length<=400/\(wtK a.T).Nodup/\tot a.T+2*L.length<=9000/\ds=[.lst (L.map<|mvD p),.int b,.tup [.int r.1,.int r.2],.tup<|cN row,.tup<|cN nb]/\post=λa'=>a'.l=a.l/\a'.T=lgQ p L b r row nb L.length a.T
noncomputable def unP(y:Pr2):List Nat×List Nat:=(y.1.map oN,y.2.map oN)
theorem aBa(x:List Nat×List Nat):unP (nP x)=x:=by
 have g:∀l:List Nat,(l.map λ(i:Nat)=>(i:Int)).map oN=l:=λl=>by rw[bH];exact(cA λi _=>dM i).trans<|lB l
 unfold unP nP;exact Prod.ext (g x.1)<|g x.2
structure FdS where
 T:WtT
 kn:List (List Nat)
 fd:List (Int×List Nat×List Nat)
noncomputable def fdI(p:Int×Int)(L:List SK)(b:Int)(r:Int×Int)(S:FdS)(x:List Nat×List Nat):FdS:=if x.2∈S.kn then S else⟨lgQ p L b r x.1 x.2 L.length S.T,S.kn++[x.2],S.fd++[(r.1,x.1,x.2)]⟩
noncomputable def fdP(p:Int×Int)(L:List SK)(b:Int)(r:Int×Int)(S:FdS)(xs:List Pr2):FdS:=xs.foldl (λS y=>fdI p L b r S<|unP y) S
theorem uL(p:Int×Int)(L:List SK)(b:Int)(r:Int×Int)(S:FdS)(xs:List Pr2)(y:Pr2):fdP p L b r S (xs++[y])=fdI p L b r (fdP p L b r S xs) (unP y):=by unfold fdP;rw[gR];rfl
structure aLa(S:FdS):Prop where
 nk:(wtK S.T).Nodup
 kn:S.kn=S.fd.map λe=>e.2.2
 nd:S.kn.Nodup
theorem aKb{p:Int×Int}{L:List SK}{b:Int}{r:Int×Int}{S:FdS}(h:aLa S)(x:List Nat×List Nat):aLa (fdI p L b r S x):=by
 unfold fdI
 split
 ·exact h
 ·rename_i q;refine⟨aDz h.nk _, ?_,aY.mpr ⟨h.nd,by simp,λa ha c hc e=>q ?_⟩⟩
  ·show S.kn++[x.2]=(S.fd++[(r.1,x.1,x.2)]).map _;rw[aU,<-h.kn];rfl
  ·have hc:c=x.2:=by simpa using hc
   rw[<-hc,<-e];exact ha
def rlt(r s:Int×Int):Prop:=r.1<s.1\/(r.1=s.1/\r.2<s.2)
instance (r s:Int×Int):Decidable (rlt r s):=inferInstanceAs (Decidable<|_\/_)
noncomputable def rkD(r:Int×Int):D:=.tup [.int r.1,.int r.2]
theorem aFK(r s:Int×Int):dlt (rkD r) (rkD s)=decide (rlt r s):=by
 have e:dlt (rkD r) (rkD s)=(if deq (.int r.1) (.int s.1)=true then(if deq (.int r.2) (.int s.2)=true then false else decide (r.2<s.2)) else decide (r.1<s.1)):=rfl;have d:∀a b:Int,deq (.int a) (.int b)=decide (a=b):=λa b=>rfl
 rw[e,d,d];unfold rlt
 by_cases h1:r.1=s.1
 ·by_cases h2:r.2=s.2
  ·simp[h1,h2]
  ·simp[h1,h2]
 ·have:¬ (r.1=s.1/\r.2<s.2):=λz=>h1 z.1
  simp[h1]
theorem sD(bt:Nat->Nat->Bool):∀k,AZ bt k<=k
 |0=>aO _
 |k+1=>by
  show(if bt (k+1) (AZ bt k)=true then k+1 else AZ bt k)<=k+1
  split
  ·exact aO _
  ·exact Nat.le_succ_of_le<|sD bt k
theorem uQ(rs:List (Int×Int)):∀k,k<rs.length->∀j,j<=k->¬ rlt (rs.getD j (0,0)) (rs.getD (AZ (λi k=>decide (rlt (rs.getD i (0,0))<|rs.getD k (0,0))) k) (0,0))
 |0,_,j,hj=>by
  have:j=0:=by omega
  subst this;show ¬ rlt _ (rs.getD 0 (0,0));unfold rlt;omega
 |k+1,hk,j,hj=>by
  have ih:=uQ rs k (by omega);generalize hb:AZ (λi k=>decide (rlt (rs.getD i (0,0))<|rs.getD k (0,0))) k=bk at ih
  have e:AZ (λi k=>decide (rlt (rs.getD i (0,0))<|rs.getD k (0,0))) (k+1)=if decide (rlt (rs.getD (k+1) (0,0))<|rs.getD bk (0,0))=true then k+1 else bk:=by rw[<-hb];rfl
  rw[e]
  by_cases q:rlt (rs.getD (k+1) (0,0)) (rs.getD bk (0,0))
  ·rw[if_pos<|decide_eq_true q]
   by_cases hjk:j=k+1
   ·subst hjk;unfold rlt;omega
   ·have:=ih j (by omega);unfold rlt at *;omega
  ·rw[if_neg<|by rw[decide_eq_false q];decide]
   by_cases hjk:j=k+1
   ·subst hjk;exact q
   ·exact ih j<|by omega
theorem oD{bt bt':Nat->Nat->Bool}:∀k,(∀i j,i<=k->j<=k->bt i j=bt' i j)->AZ bt k=AZ bt' k
 |0,_=>rfl
 |k+1,h=>by
  have ih:=oD k λi j hi hj=>h i j (by omega)<|by omega
  show(if bt (k+1) (AZ bt k)=true then k+1 else AZ bt k)=(if bt' (k+1) (AZ bt' k)=true then k+1 else AZ bt' k);have:=sD bt' k;rw[ih,h (k+1) (AZ bt' k) (aO _)<|by omega]
theorem aJG(hu:X.A.units+4<AQ){T:WtT}(hne:T≠[]):aGf X ((wtK T).map lN)/\∃t:(Int×Int)×List Pr2,T[jA<|(wtK T).map lN]? =some t/\((wtK T).map lN)[jA<|(wtK T).map lN]? =some (rkD t.1)/\(wtK T)[jA<|(wtK T).map lN]? =some (rkK t.1)/\(wtD T)[jA<|(wtK T).map lN]? =some (t.2.map p2D)/\∀s∈T,¬ rlt s.1 t.1:=by
 have l0:0<T.length:=iG.mpr hne
 have em:(wtK T).map lN=T.map λt=>rkD t.1:=by unfold wtK;rw[bH];rfl
 have ln:((wtK T).map lN).length=T.length:=by rw[em,aB]
 have mem:∀d∈(wtK T).map lN,∃r,d=rkD r:=λd hd=>by rw[em] at hd;obtain⟨t,_,rfl⟩:=aX.mp hd;exact⟨t.1,rfl⟩
 have gd:∀i,i<T.length->((wtK T).map lN).getD i .non=rkD ((T.map (·.1)).getD i (0,0)):=λi hi=>by rw[em];simp[cP,hi]
 have eb:jA ((wtK T).map lN)=AZ (λi k=>decide (rlt ((T.map (·.1)).getD i (0,0)) ((T.map (·.1)).getD k (0,0)))) (T.length-1):=by unfold jA;rw[ln];exact oD _ λi j hi hj=>by rw[gd i<|by omega,gd j<|by omega,aFK]
 have bl:=sD (λi k=>decide (rlt ((T.map (·.1)).getD i (0,0)) ((T.map (·.1)).getD k (0,0))))<|T.length-1;have bm:=uQ (T.map (·.1)) (T.length-1) (by rw[aB];omega);rw[<-eb] at bl bm;generalize jA ((wtK T).map lN)=n at bl bm;have hn:n<T.length:=by omega
 have hT:T[n]? =some T[n]:=dW hn;refine⟨⟨by rw[ln];exact l0,λd hd d2 hd2=> ?_,λd hd=> ?_,λd hd=> ?_⟩,T[n],hT, ?_, ?_, ?_,λs hs=> ?_⟩
 ·obtain⟨r,rfl⟩:=mem d hd;obtain⟨r2,rfl⟩:=mem d2 hd2;rfl
 ·obtain⟨r,rfl⟩:=mem d hd;rfl
 ·obtain⟨r,rfl⟩:=mem d hd;show X.A.units+1+1<AQ;omega
 ·rw[em,bB,hT];rfl
 ·unfold wtK;rw[bB,hT];rfl
 ·unfold wtD;rw[bB,hT];rfl
 ·obtain⟨j,hj⟩:=cZ hs;have lj:j<T.length:=(aF.mp hj).1;have:=bm j (by omega);have e1:(T.map (·.1)).getD j (0,0)=s.1:=by simp[cP,hj]
  have e2:(T.map (·.1)).getD n (0,0)=T[n].1:=by simp[cP,hn]
  rw[e1,e2] at this;exact this
noncomputable def llt:List Int->List Int->Bool
 |[],[]=>false
 |[],_::_=>true
 |_::_,[]=>false
 |x::a,y::b=>if x=y then llt a b else decide (x<y)
theorem aGg:∀a b:List Int,nR (a.map D.int) (b.map D.int)=llt a b
 |[],[]=>rfl
 |[],_::_=>rfl
 |_::_,[]=>rfl
 |x::a,y::b=>by
  have e:nR ((x::a).map D.int) ((y::b).map D.int)=if decide (x=y)=true then nR (a.map D.int) (b.map D.int) else decide (x<y):=rfl
  rw[e,aGg a b];show _=if x=y then llt a b else decide (x<y)
  by_cases h:x=y
  ·rw[if_pos<|decide_eq_true h,if_pos h]
  ·rw[if_neg (by rw[decide_eq_false h];decide),if_neg h]
theorem pN:∀a:List Int,llt a a=false
 |[]=>rfl
 |x::a=>by show(if x=x then llt a a else decide (x<x))=false;rw[if_pos rfl];exact pN a
theorem xD:∀a b:List Int,a≠b->llt a b=true\/llt b a=true
 |[],[],h=>absurd rfl h
 |[],_::_,_=>.inl rfl
 |_::_,[],_=>.inr rfl
 |x::a,y::b,h=>by
  show(if x=y then llt a b else decide (x<y))=true\/(if y=x then llt b a else decide (y<x))=true
  by_cases e:x=y
  ·subst e;rw[if_pos rfl,if_pos rfl];exact xD a b λz=>h (by rw[z])
  ·rw[if_neg e,if_neg λz=>e z.symm,decide_eq_true_iff,decide_eq_true_iff];omega
theorem tV:∀a b c:List Int,llt a b=true->llt b c=true->llt a c=true
 |[],[],_,h,_=>by cases h
 |[],_::_,[],_,h=>by cases h
 |[],_::_,_::_,_,_=>rfl
 |_::_,[],_,h,_=>by cases h
 |_::_,_::_,[],_,h=>by cases h
 |x::a,y::b,z::c,h1,h2=>by
  have h1:(if x=y then llt a b else decide (x<y))=true:=h1;have h2:(if y=z then llt b c else decide (y<z))=true:=h2;show(if x=z then llt a c else decide (x<z))=true
  by_cases e1:x=y
  ·subst e1;rw[if_pos rfl] at h1
   by_cases e2:x=z
   ·subst e2;rw[if_pos rfl] at h2 ⊢;exact tV a b c h1 h2
   ·rw[if_neg e2] at h2 ⊢;exact h2
  ·rw[if_neg e1] at h1;have h1:=of_decide_eq_true h1
   by_cases e2:y=z
   ·subst e2;rw[if_neg e1];exact decide_eq_true h1
   ·rw[if_neg e2] at h2;have h2:=of_decide_eq_true h2;rw[if_neg<|by omega];exact decide_eq_true<|by omega
noncomputable def plt(x y:Pr2):Bool:=if x.1=y.1 then llt x.2 y.2 else llt x.1 y.1
theorem aIJ(a b:List Int):deq (bK a) (bK b)=decide (a=b):=aEE a b
theorem aLg(x y:Pr2):dlt (p2D x) (p2D y)=plt x y:=by
 have e:dlt (p2D x) (p2D y)=if deq (bK x.1) (bK y.1)=true then(if deq (bK x.2) (bK y.2)=true then false else nR (x.2.map D.int) (y.2.map D.int)) else nR (x.1.map D.int) (y.1.map D.int):=rfl
 rw[e,aIJ,aIJ,aGg,aGg];unfold plt
 by_cases h:x.1=y.1
 ·rw[if_pos<|decide_eq_true h,if_pos h]
  by_cases h2:x.2=y.2
  ·rw[if_pos<|decide_eq_true h2,h2,pN]
  ·rw[if_neg<|by rw[decide_eq_false h2];decide]
 ·rw[if_neg (by rw[decide_eq_false h];decide),if_neg h]
theorem aHx(x:Pr2):plt x x=false:=by unfold plt;rw[if_pos rfl];exact pN _
theorem wR{x y:Pr2}(h:x≠y):plt x y=true\/plt y x=true:=by
 unfold plt
 by_cases e:x.1=y.1
 ·rw[if_pos e,if_pos e.symm];exact xD _ _ λz=>h<|Prod.ext e z
 ·rw[if_neg e,if_neg λz=>e z.symm];exact xD _ _ e
theorem aFJ{x y z:Pr2}(h1:plt x y=true)(h2:plt y z=true):plt x z=true:=by
 unfold plt at *
 by_cases e1:x.1=y.1
 ·rw[if_pos e1] at h1
  by_cases e2:y.1=z.1
  ·rw[if_pos e2] at h2;rw[if_pos<|e1.trans e2];exact tV _ _ _ h1 h2
  ·rw[if_neg e2] at h2;rw[e1,if_neg e2];exact h2
 ·rw[if_neg e1] at h1
  by_cases e2:y.1=z.1
  ·rw[<-e2,if_neg e1];exact h1
  ·rw[if_neg e2] at h2
   by_cases e3:x.1=z.1
   ·have:=tV _ _ _ h1 h2;rw[e3,pN] at this;cases this
   ·rw[if_neg e3];exact tV _ _ _ h1 h2
noncomputable def rkP(ps:List Pr2)(x:Pr2):Nat:=(ps.filter λy=>plt y x).length
theorem tG{x y:Pr2}(hx:x∈ps)(h:plt x y=true):rkP ps x<rkP ps y:=by
 unfold rkP
 have e:ps.filter (λz=>plt z x)=(ps.filter λz=>plt z y).filter λz=>plt z x:=by
  rw[List.filter_filter];refine aFP λz _=> ?_
  cases q:plt z x with
  |false=>rfl
  |true=>rw[aFJ q h];rfl
 rw[e];refine List.length_filter_lt_length_iff_exists.mpr ⟨x,fR.mpr ⟨hx,h⟩, ?_⟩;rw[aHx];decide
theorem aJg(nd:ps.Nodup)(hl:ps.length<=10000)(hu:A.units+8<AQ):SrtP A ps (rkP ps):=by
 have key:∀x∈ps,∀y∈ps,x≠y->rkP ps x≠rkP ps y:=λx hx y hy ne=>by
  rcases wR ne with h|h
  ·exact bN<|tG hx h
  ·exact jB<|tG hy h
 refine⟨hl,λx hx y hy=> ?_, ?_,hu⟩
 ·rw[aLg];cases h:plt x y with
  |true=>exact(decide_eq_true<|tG hx h).symm
  |false=>
   refine(decide_eq_false λq=> ?_).symm
   by_cases e:x=y
   ·rw[e] at q;omega
   ·rcases wR e with z|z
    ·rw[h] at z;cases z
    ·have:=tG hy z;omega
 ·unfold List.Nodup;rw[lC];exact List.Pairwise.imp_of_mem (λ{a b} ha hb h=>key a ha b hb h) nd
noncomputable def aFZ(x:Pr2):List Pr2->List Pr2
 |[]=>[x]
 |y::l=>if plt x y then x::y::l else y::aFZ x l
noncomputable def fX:List Pr2->List Pr2
 |[]=>[]
 |x::l=>aFZ x<|fX l
theorem qW(x:Pr2):∀l,(aFZ x l).Perm (x::l)
 |[]=>.refl _
 |y::l=>by
  show(if plt x y then x::y::l else y::aFZ x l).Perm _
  split
  ·exact .refl _
  ·exact((qW x l).cons y).trans<|.swap x y l
theorem gI:∀l,(fX l).Perm l
 |[]=>.refl _
 |x::l=>(qW x<|fX l).trans<|(gI l).cons x
theorem aBN{x:Pr2}:∀ {l:List Pr2},x∉l->l.Pairwise (λa b=>plt a b=true)->(aFZ x l).Pairwise (λa b=>plt a b=true)
 |[],_,_=>by simp[aFZ]
 |y::l,h,p=>by
  obtain⟨p1,p2⟩:=kJ.mp p;show(if plt x y then x::y::l else y::aFZ x l).Pairwise _
  by_cases q:plt x y=true
  ·rw[if_pos q];refine kJ.mpr ⟨λz hz=> ?_,p⟩
   rcases aR.mp hz with rfl|hz
   ·exact q
   ·exact aFJ q<|p1 z hz
  ·rw[if_neg q];refine kJ.mpr ⟨λz hz=> ?_,aBN (λz=>h<|aC _ z) p2⟩
   rcases aR.mp ((qW x l).mem_iff.mp hz) with rfl|hz
   ·rcases wR (x:=z) (y:=y) (λe=>h<|e▸aE) with w|w
    ·exact absurd w q
    ·exact w
   ·exact p1 z hz
theorem xV:∀ {l:List Pr2},l.Nodup->(fX l).Pairwise (λa b=>plt a b=true)
 |[],_=>List.Pairwise.nil
 |x::l,h=>by obtain⟨h1,h2⟩:=bA.mp h;exact aBN (λz=>h1<|(gI l).mem_iff.mp z)<|xV h2
theorem aHp{qs:List Pr2}(nd:ps.Nodup)(hp:qs.Perm ps)(hs:(qs.map<|rkP ps).Pairwise (·<·)):qs=fX ps:=by refine List.Perm.eq_of_pairwise (le:=λx y=>rkP ps x<rkP ps y) (λx y _ _ h1 h2=>by omega) (by rw[lC] at hs;exact hs) ?_ (hp.trans (gI ps).symm);exact List.Pairwise.imp_of_mem (λ{a b} ha _ h=>tG ((gI ps).mem_iff.mp ha) h)<|xV nd
noncomputable def eC(T:WtT):Nat:=jA<|(wtK T).map lN
noncomputable def fdT(p:Int×Int)(L:List SK)(b:Int)(S:FdS):FdS:=match S.T[eC S.T]? with
 |none=>S
 |some t=>fdP p L b t.1 {S with T:=S.T.eraseIdx (eC S.T)} (fX t.2)
noncomputable def iA(p:Int×Int)(L:List SK)(b:Int):Nat->FdS->FdS
 |0,S=>S
 |k+1,S=>if S.T=[] then S else iA p L b k (fdT p L b S)
noncomputable def inR(row:List Nat):List Int:=row.map λ(i:Nat)=>(i:Int)
theorem aHc{a b:List Nat}(h:inR a=inR b):a=b:=by
 have:(inR a).map oN=(inR b).map oN:=by rw[h]
 have g:∀l:List Nat,(inR l).map oN=l:=λl=>by unfold inR;rw[bH];exact(cA λi _=>dM i).trans<|lB l
 rwa[g,g] at this
noncomputable def rwP(y:Pr2):List Nat:=(unP y).1
noncomputable def itP(p:Int×Int)(L:List SK)(row:List Nat):Pr2:=nP (row,nrQ p L row)
theorem nY(p:Int×Int)(L:List SK)(row:List Nat):rwP (itP p L row)=row:=by unfold rwP itP;rw[aBa]
theorem aIC(p:Int×Int)(L:List SK)(row:List Nat):unP (itP p L row)=(row,nrQ p L row):=aBa _
noncomputable def rkR(L:List SK)(row:List Nat):Int×Int:=(S45.prQ (prK L) row,(row.length:Int))
def klt(L:List SK)(a c:List Nat):Prop:=rlt (rkR L a) (rkR L c)\/(rkR L a=rkR L c/\llt (inR a) (inR c)=true)
def kle(L:List SK)(a c:List Nat):Prop:=a=c\/klt L a c
theorem aKg{a b c:Int×Int}(h:rlt a b)(h2:rlt b c):rlt a c:=by unfold rlt at *;omega
theorem aGW{a b:Int×Int}(h:a≠b)(h2:¬ rlt b a):rlt a b:=by
 obtain⟨a1,a2⟩:=a;obtain⟨b1,b2⟩:=b;unfold rlt at *;have:¬ (a1=b1/\a2=b2):=λz=>h (by rw[z.1,z.2])
 simp only at *;omega
theorem aFC{L:List SK}{a b c:List Nat}(h:klt L a b)(h2:klt L b c):klt L a c:=by
 rcases h with h|⟨e,h⟩<;>rcases h2 with h2|⟨e2,h2⟩
 ·exact .inl<|aKg h h2
 ·exact .inl<|e2▸h
 ·exact .inl<|e▸h2
 ·exact .inr ⟨e.trans e2,tV _ _ _ h h2⟩
theorem aJN{L:List SK}{a b c:List Nat}(h:kle L a b)(h2:kle L b c):kle L a c:=by
 rcases h with rfl|h
 ·exact h2
 ·rcases h2 with rfl|h2
  ·exact .inr h
  ·exact .inr<|aFC h h2
theorem zY{x:Int}:∀ {a b:List Int},a.length=b.length->llt a b=true->llt (a++[x]) (b++[x])=true
 |[],[],_,h=>by cases h
 |[],_::_,h,_=>by cases h
 |_::_,[],h,_=>by cases h
 |u::a,v::b,hl,h=>by
  have h:(if u=v then llt a b else decide (u<v))=true:=h;show(if u=v then llt (a++[x]) (b++[x]) else decide (u<v))=true
  by_cases e:u=v
  ·rw[if_pos e] at h ⊢;exact zY (by simpa using hl) h
  ·rw[if_neg e] at h ⊢;exact h
theorem nL(L:List SK)(a:List Nat)(k:Nat):rkR L (a++[k])=((rkR L a).1+prK L k,(rkR L a).2+1):=by unfold rkR;rw[S45.pr_snoc,aM];rfl
theorem aDG{L:List SK}{a c:List Nat}(k:Nat)(h:kle L a c):kle L (a++[k]) (c++[k]):=by
 rcases h with rfl|h|⟨e,h⟩
 ·exact .inl rfl
 ·refine .inr<|.inl ?_;rw[nL,nL];unfold rlt at *;simp only;omega
 ·refine .inr (.inr ⟨by rw[nL,nL,e], ?_⟩)
  have el:a.length=c.length:=by have:=congrArg Prod.snd e;have:(a.length:Int)=(c.length:Int):=this;omega
  show llt ((a++[k]).map λ(i:Nat)=>(i:Int)) ((c++[k]).map λ(i:Nat)=>(i:Int))=true;rw[aU,aU];exact zY (by rw[aB,aB];exact el) h
noncomputable def wrR(T:WtT):List (List Nat):=T.flatMap λt=>t.2.map rwP
theorem wrR_mem{T:WtT}{row:List Nat}:row∈wrR T↔∃t∈T,∃y∈t.2,rwP y=row:=by
 unfold wrR;rw[cW]
 constructor
 ·rintro⟨t,ht,h⟩;obtain⟨y,hy,e⟩:=aX.mp h;exact⟨t,ht,y,hy,e⟩
 ·rintro⟨t,ht,y,hy,e⟩;exact⟨t,ht,aX.mpr ⟨y,hy,e⟩⟩
theorem vW(r:Int×Int)(x:Pr2):∀T:WtT,(wrR<|iW T r x).Perm (rwP x::wrR T)
 |[]=>.refl _
 |t::T=>by
  show(wrR (if t.1=r then(t.1,t.2++[x])::T else t::iW T r x)).Perm _
  split
  ·show((t.2++[x]).map rwP++wrR T).Perm (rwP x::(t.2.map rwP++wrR T));rw[aU,dL];exact mD
  ·show(t.2.map rwP++wrR (iW T r x)).Perm (rwP x::(t.2.map rwP++wrR T));exact((vW r x T).append_left _).trans mD
theorem zT{r:Int×Int}{x:Pr2}:∀ {T:WtT}{t':(Int×Int)×List Pr2},(∀t∈T,t.2≠[])->t'∈iW T r x->t'.2≠[]/\∀y∈t'.2,(y=x/\t'.1=r)\/∃t∈T,t.1=t'.1/\y∈t.2
 |[],t',_,h=>by
  have:t'=(r,[x]):=by simpa[iW] using h
  subst this;exact⟨by simp,λy hy=>.inl ⟨by simpa using hy,rfl⟩⟩
 |t::T,t',hn,h=>by
  have h:t'∈(if t.1=r then(t.1,t.2++[x])::T else t::iW T r x):=h
  by_cases e:t.1=r
  ·rw[if_pos e] at h
   rcases aR.mp h with rfl|h
   ·refine⟨by simp,λy hy=> ?_⟩
    rcases aK.mp hy with hy|hy
    ·exact .inr ⟨t,aE,rfl,hy⟩
    ·exact .inl ⟨by simpa using hy,e⟩
   ·exact⟨hn _<|aC _ h,λy hy=>.inr ⟨t',aC _ h,rfl,hy⟩⟩
  ·rw[if_neg e] at h
   rcases aR.mp h with rfl|h
   ·exact⟨hn _ aE,λy hy=>.inr ⟨t',aE,rfl,hy⟩⟩
   ·obtain⟨h1,h2⟩:=zT (λz hz=>hn z<|aC _ hz) h;exact⟨h1,λy hy=>(h2 y hy).imp id λ⟨z,hz,q⟩=>⟨z,aC _ hz,q⟩⟩
variable {p:Int×Int}{L:List SK}{b:Int}{r:Int×Int}{row nb:List Nat}{T:WtT}
noncomputable def chs(L:List SK)(b:Int)(r:Int×Int)(row:List Nat)(n:Nat):List (List Nat):=((bQ n).filter λk=>decide<|r.1+prK L k<=b).map λk=>row++[k]
theorem chs_mem{c:List Nat}:c∈chs L b r row n↔∃k,k<n/\r.1+prK L k<=b/\c=row++[k]:=by
 unfold chs;rw[aX]
 constructor
 ·rintro⟨k,hk,rfl⟩;obtain⟨h1,h2⟩:=fR.mp hk;exact⟨k,dU.mp h1,of_decide_eq_true h2,rfl⟩
 ·rintro⟨k,h1,h2,rfl⟩;exact⟨k,fR.mpr ⟨dU.mpr h1,decide_eq_true h2⟩,rfl⟩
theorem aJU(n:Nat):(chs L b r row n).Nodup:=by unfold chs List.Nodup;rw[lC];refine List.Pairwise.imp (λ{a c} h e=>h ?_) (List.Pairwise.filter _<|aIc (n:=n));simpa using List.append_cancel_left e
theorem aBZ:∀n:Nat,(wrR<|lgQ p L b r row nb n T).Perm (chs L b r row n++wrR T)
 |0=>.refl _
 |n+1=>by
  have ih:=aBZ n
  have ec:chs L b r row (n+1)=chs L b r row n++(if r.1+prK L n<=b then[row++[n]] else[]):=by
   unfold chs;rw[aIl,qF,aU];congr 1
   by_cases h:r.1+prK L n<=b
   ·simp[h]
   ·simp[h]
  rw[ec];show(wrR (if r.1+(L.getD n AR).2<=b then iW _ _ _ else _)).Perm _
  by_cases h:r.1+prK L n<=b
  ·rw[if_pos h,if_pos (show r.1+(L.getD n AR).2<=b from h)];refine(vW _ _ _).trans ?_
   have e:rwP (nP (row++[n],iB (iO p (L.getD n AR).1) nb))=row++[n]:=by unfold rwP;rw[aBa]
   rw[e,dL];exact(ih.cons _).trans mD.symm
  ·rw[if_neg h,if_neg (show ¬ r.1+(L.getD n AR).2<=b from h),bZ];exact ih
theorem wQ:∀ (n:Nat) {t':(Int×Int)×List Pr2},(∀t∈T,t.2≠[])->t'∈lgQ p L b r row nb n T->t'.2≠[]/\∀y∈t'.2,(∃k,k<n/\r.1+prK L k<=b/\t'.1=(r.1+prK L k,r.2+1)/\y=nP (row++[k],iB (iO p (L.getD k AR).1) nb))\/∃t∈T,t.1=t'.1/\y∈t.2
 |0,t',hn,h=>⟨hn t' h,λy hy=>.inr ⟨t',h,rfl,hy⟩⟩
 |n+1,t',hn,h=>by
  have h:t'∈(if r.1+(L.getD n AR).2<=b then iW (lgQ p L b r row nb n T) (r.1+(L.getD n AR).2,r.2+1) (nP (row++[n],iB (iO p (L.getD n AR).1) nb)) else lgQ p L b r row nb n T):=h;have old:∀t∈lgQ p L b r row nb n T,t.2≠[]:=λt ht=>(wQ n hn ht).1
  by_cases q:r.1+(L.getD n AR).2<=b
  ·rw[if_pos q] at h;obtain⟨h1,h2⟩:=zT old h;refine⟨h1,λy hy=> ?_⟩
   rcases h2 y hy with⟨e1,e2⟩|⟨t,ht,e,hy2⟩
   ·exact .inl ⟨n,by omega,q,e2,e1⟩
   ·rcases(wQ n hn ht).2 y hy2 with⟨k,k1,k2,k3,k4⟩|⟨s,s1,s2,s3⟩
    ·exact .inl ⟨k,by omega,k2,e▸k3,k4⟩
    ·exact .inr ⟨s,s1,s2.trans e,s3⟩
  ·rw[if_neg q] at h;obtain⟨h1,h2⟩:=wQ n hn h;exact⟨h1,λy hy=>(h2 y hy).imp (λ⟨k,k1,k2⟩=>⟨k,by omega,k2⟩) id⟩
theorem aFz:∀ {T:WtT},(∀t∈T,t.2≠[])->tot T<=2*(wrR T).length
 |[],_=>aO _
 |t::T,h=>by
  have ih:=aFz (T:=T) λz hz=>h z<|aC _ hz
  have h1:0<t.2.length:=iG.mpr<|h t aE;have e1:tot (t::T)=(t.2.length+1)+tot T:=by simp[tot]
  have e2:(wrR (t::T)).length=t.2.length+(wrR T).length:=by show(t.2.map rwP++wrR T).length=_;rw[aM,aB]
  omega
def Cov(p:Int×Int)(L:List SK)(S:FdS)(rest:List Pr2)(row:List Nat):Prop:=row∈wrR S.T\/row∈rest.map rwP\/∃e∈S.fd,e.2.2=nrQ p L row/\kle L e.2.1 row
structure Wk(p:Int×Int)(L:List SK)(b:Int)(dn:List (List Nat))(r:Int×Int)(rest:List Pr2)(S:FdS):Prop where
 ok:aLa S
 ne:∀t∈S.T,t.2≠[]
 wt:∀t∈S.T,∀y∈t.2,∃row,y=itP p L row/\jF L row/\t.1=rkR L row/\t.1.1<=b
 rs:∀y∈rest,∃row,y=itP p L row/\jF L row/\r=rkR L row/\r.1<=b
 up:rest.Pairwise λx y=>plt x y=true
 gt:rest≠[]->∀t∈S.T,rlt r t.1
 nd:(dn++rest.map rwP++wrR S.T).Nodup
 fd:∀e∈S.fd,e.2.1∈dn/\jF L e.2.1/\e.1=S45.prQ (prK L) e.2.1/\e.1<=b/\e.2.2=nrQ p L e.2.1
 par:∀row,row∈dn++rest.map rwP++wrR S.T->row=[]\/∃q k,row=q++[k]/\q∈S.fd.map λe=>e.2.1
 du:∀row∈dn,jF L row/\S45.prQ (prK L) row<=b
 srt:(S.fd.map λe=>e.2.1).Pairwise (klt L)
 lt1:∀e∈S.fd,∀y∈rest,klt L e.2.1<|rwP y
 lt2:∀e∈S.fd,∀row∈wrR S.T,klt L e.2.1 row
 cl:∀e∈S.fd,∀k,k<L.length->e.1+prK L k<=b->Cov p L S rest (e.2.1++[k])
 st:0<=b->Cov p L S rest []
variable {dn:List (List Nat)}{rest:List Pr2}{S:FdS}{U:List (List Nat)}
noncomputable def aGh(n:Nat)(fd:List (List Nat)):List (List Nat):=[]::fd.flatMap λq=>(bQ n).map λk=>q++[k]
theorem aEP(n:Nat)(fd:List (List Nat)):(aGh n fd).length=1+fd.length*n:=by
 unfold aGh;rw[bL,List.length_flatMap];have:(fd.map λq=>((bQ n).map λk=>q++[k]).length)=fd.map λ_=>n:=cA λq _=>by rw[aB,eY]
 rw[this,List.map_const',List.sum_replicate_nat];omega
theorem Wk.okR(W:Wk p L b dn r rest S):∀row∈dn++rest.map rwP++wrR S.T,jF L row/\S45.prQ (prK L) row<=b:=λrow h=>by
 rcases aK.mp h with h|h
 ·rcases aK.mp h with h|h
  ·exact W.du row h
  ·obtain⟨y,hy,e⟩:=aX.mp h;obtain⟨q,rfl,q2,q3,q4⟩:=W.rs y hy;rw[nY] at e;subst e;exact⟨q2,by rw[q3] at q4;exact q4⟩
 ·obtain⟨t,ht,y,hy,e⟩:=wrR_mem.mp h;obtain⟨q,rfl,q2,q3,q4⟩:=W.wt t ht y hy;rw[nY] at e;subst e;exact⟨q2,by rw[q3] at q4;exact q4⟩
theorem Wk.few2(W:Wk p L b dn r rest S):dn.length+rest.length+(wrR S.T).length<=1+S.fd.length*L.length:=by
 have:=W.nd.length_le_of_subset (l₂:=aGh L.length<|S.fd.map λe=>e.2.1) λrow h=>by
  rcases W.par row h with rfl|⟨q,k,rfl,hq⟩
  ·exact aE ..
  ·refine aC _<|cW.mpr ⟨q,hq,aX.mpr ⟨k,dU.mpr ?_,rfl⟩⟩;exact(W.okR _ h).1 k<|by simp
 rw[aEP,aM,aM,aB,aB] at this;exact this
theorem Wk.tot2(W:Wk p L b dn r rest S):DL.tot S.T<=2*(1+S.fd.length*L.length):=by have:=aFz W.ne;have:=W.few2;omega
theorem Wk.step(hpr:∀k,k<L.length->1<=prK L k){y:Pr2}(W:Wk p L b dn r (y::rest) S):Wk p L b (dn++[rwP y]) r rest (fdI p L b r S<|unP y):=by
 obtain⟨row,ey,ro,er,rb⟩:=W.rs y aE;subst ey;have up:=kJ.mp W.up;have rp:S45.prQ (prK L) row<=b:=by rw[er] at rb;exact rb
 rw[aIC];have ew:(itP p L row::rest).map rwP=row::rest.map rwP:=by rw[aV,nY]
 have nd:=W.nd;have par:=W.par;rw[ew] at nd par;have e1:dn++row::rest.map rwP=(dn++[row])++rest.map rwP:=by simp
 rw[e1] at nd par;rw[nY]
 have cv:∀c,Cov p L S (itP p L row::rest) c->c=row\/Cov p L S rest c:=λc h=>by
  rcases h with h|h|h
  ·exact .inr<|.inl h
  ·rw[ew] at h
   rcases aR.mp h with h|h
   ·exact .inl h
   ·exact .inr (.inr<|.inl h)
  ·exact .inr (.inr<|.inr h)
 have du:∀c∈dn++[row],jF L c/\S45.prQ (prK L) c<=b:=λc h=>by
  rcases aK.mp h with h|h
  ·exact W.du c h
  ·rw[aD.mp h];exact⟨ro,rp⟩
 have rs:∀y∈rest,∃row,y=itP p L row/\jF L row/\r=rkR L row/\r.1<=b:=λz hz=>W.rs z<|aC _ hz
 have gt:=W.gt (by simp);unfold fdI
 by_cases hk:nrQ p L row∈S.kn
 ·rw[if_pos hk];rw[W.ok.kn] at hk;obtain⟨e,he,en⟩:=aX.mp hk
  have ke:klt L e.2.1 row:=by have:=W.lt1 e he _ aE;rw[nY] at this;exact this
  have cv2:∀c,Cov p L S (itP p L row::rest) c->Cov p L S rest c:=λc h=>by
   rcases cv c h with rfl|h
   ·exact .inr<|.inr ⟨e,he,en,.inr ke⟩
   ·exact h
  exact⟨W.ok,W.ne,W.wt,rs,up.2,λ_=>gt,nd,λe he=>⟨aS _ (W.fd e he).1,(W.fd e he).2⟩,par,du,W.srt,λe he z hz=>W.lt1 e he z<|aC _ hz,W.lt2,λe he k hk hle=>cv2 _<|W.cl e he k hk hle,λh=>cv2 _<|W.st h⟩
 ·have ok:=aKb (p:=p) (L:=L) (b:=b) (r:=r) W.ok (row,nrQ p L row);unfold fdI at ok;rw[if_neg hk] at ok ⊢;have pm:=aBZ (p:=p) (L:=L) (b:=b) (r:=r) (row:=row) (nb:=nrQ p L row) (T:=S.T) L.length;have lm:=λt' h=>wQ (p:=p) (L:=L) (b:=b) (r:=r) (row:=row) (nb:=nrQ p L row) (T:=S.T) L.length (t':=t') W.ne h
  have rno:row∉S.fd.map λe=>e.2.1:=λh=>by obtain⟨e,he,ee⟩:=aX.mp h;have:=(W.fd e he).1;rw[ee] at this;have n2:=(aY.mp (aY.mp nd).1).1;exact(aY.mp n2).2.2 row this row (by simp) rfl
  have mem':∀c,c∈wrR (lgQ p L b r row (nrQ p L row) L.length S.T)↔c∈chs L b r row L.length\/c∈wrR S.T:=λc=>by rw[pm.mem_iff,aK]
  have ch_lt:∀c∈chs L b r row L.length,klt L row c:=λc h=>by obtain⟨k,k1,k2,rfl⟩:=chs_mem.mp h;refine .inl ?_;rw[nL];have:=hpr k k1;unfold rlt;simp only;omega
  have T_lt:∀c∈wrR S.T,klt L row c:=λc h=>by obtain⟨t,ht,y,hy,e⟩:=wrR_mem.mp h;obtain⟨q,rfl,q2,q3,q4⟩:=W.wt t ht y hy;rw[nY] at e;subst e;refine .inl ?_;rw[<-er,<-q3];exact gt t ht
  have rest_lt:∀z∈rest,klt L row (rwP z):=λz hz=>by
   obtain⟨q,rfl,q2,q3,q4⟩:=rs z hz;rw[nY];refine .inr ⟨er.symm.trans q3, ?_⟩;have:=up.1 _ hz;unfold plt at this
   by_cases e:(itP p L row).1=(itP p L q).1
   ·exfalso;have e2:row=q:=aHc e;subst e2;rw[if_pos rfl,pN] at this;cases this
   ·rw[if_neg e] at this;exact this
  have cvn:∀c,Cov p L S (itP p L row::rest) c->Cov p L ⟨lgQ p L b r row (nrQ p L row) L.length S.T,S.kn++[nrQ p L row],S.fd++[(r.1,row,nrQ p L row)]⟩ rest c:=λc h=>by
   rcases cv c h with rfl|h|h|⟨e,he,q⟩
   ·exact .inr<|.inr ⟨(r.1,c,nrQ p L c),aH _<|bI _,rfl,.inl rfl⟩
   ·exact .inl ((mem' c).mpr<|.inr h)
   ·exact .inr<|.inl h
   ·exact .inr<|.inr ⟨e,aS _ he,q⟩
  have efd:(S.fd++[(r.1,row,nrQ p L row)]).map (λe=>e.2.1)=S.fd.map (λe=>e.2.1)++[row]:=by rw[aU];rfl
  refine⟨ok,λt h=>(lm t h).1,λt ht y hy=> ?_,rs,up.2,λ_ t ht=> ?_, ?_,λe he=> ?_,λc hc=> ?_,du, ?_,λe he z hz=> ?_,λe he c hc=> ?_,λe he k hk hle=> ?_,λh=>cvn _<|W.st h⟩
  ·rcases(lm t ht).2 y hy with⟨k,k1,k2,k3,k4⟩|⟨s,s1,s2,s3⟩
   ·refine⟨row++[k],by rw[k4];unfold itP;rw[xL],λi hi=> ?_,by rw[k3,nL,er],by rw[k3];exact k2⟩
    rcases aK.mp hi with hi|hi
    ·exact ro i hi
    ·rw[aD.mp hi];exact k1
   ·rw[<-s2];exact W.wt s s1 y s3
  ·obtain⟨h1,h2⟩:=lm t ht;obtain⟨y,hy⟩:=List.exists_mem_of_ne_nil _ h1
   rcases h2 y hy with⟨k,k1,k2,k3,k4⟩|⟨s,s1,s2,s3⟩
   ·rw[k3];have:=hpr k k1;unfold rlt;simp only;omega
   ·rw[<-s2];exact gt s s1
  ·have pm2:((dn++[row]++rest.map rwP)++wrR (lgQ p L b r row (nrQ p L row) L.length S.T)).Perm (chs L b r row L.length++((dn++[row]++rest.map rwP)++wrR S.T)):=(pm.append_left _).trans (by
    rw[<-dL,<-dL (chs L b r row L.length)]
    exact gO.append_right _)
   refine pm2.nodup_iff.mpr<|aY.mpr ⟨aJU _,nd,λc hc d hd e=> ?_⟩;subst e;obtain⟨k,k1,k2,rfl⟩:=chs_mem.mp hc
   rcases par _ hd with h|⟨q,j,h1,h2⟩
   ·simp at h
   ·have:row=q:=(List.append_inj' h1 rfl).1;subst this;exact rno h2
  ·rcases aK.mp he with he|he
   ·exact⟨aS _ (W.fd e he).1,(W.fd e he).2⟩
   ·rw[aD.mp he];exact⟨aH _<|bI _,ro,by rw[er];rfl,rb,rfl⟩
  ·rw[efd]
   have h:c∈dn++[row]++rest.map rwP++wrR S.T\/c∈chs L b r row L.length:=by
    rcases aK.mp hc with h|h
    ·exact .inl<|aS _ h
    ·rcases(mem' c).mp h with h|h
     ·exact .inr h
     ·exact .inl<|aH _ h
   rcases h with h|h
   ·exact(par c h).imp id λ⟨q,k,h1,h2⟩=>⟨q,k,h1,aS _ h2⟩
   ·obtain⟨k,_,_,rfl⟩:=chs_mem.mp h;exact .inr ⟨row,k,rfl,aH _<|bI _⟩
  ·rw[efd];refine jO.mpr ⟨W.srt,iU _ _,λa ha c hc=> ?_⟩;rw[aD.mp hc];obtain⟨e,he,rfl⟩:=aX.mp ha;have:=W.lt1 e he _ aE;rw[nY] at this;exact this
  ·rcases aK.mp he with he|he
   ·exact W.lt1 e he z<|aC _ hz
   ·rw[aD.mp he];exact rest_lt z hz
  ·rcases aK.mp he with he|he
   ·rcases(mem' c).mp hc with h|h
    ·have:=W.lt1 e he _ aE;rw[nY] at this;exact aFC this<|ch_lt c h
    ·exact W.lt2 e he c h
   ·rw[aD.mp he]
    rcases(mem' c).mp hc with h|h
    ·exact ch_lt c h
    ·exact T_lt c h
  ·rcases aK.mp he with he|he
   ·exact cvn _<|W.cl e he k hk hle
   ·rw[aD.mp he] at hle ⊢;exact .inl<|(mem' _).mpr (.inl<|chs_mem.mpr ⟨k,hk,hle,rfl⟩)
theorem Wk.pop{t:(Int×Int)×List Pr2}(W:Wk p L b dn r [] S)(hn:S.T[n]? =some t)(hm:∀s∈S.T,¬ rlt s.1 t.1):t.2.Nodup/\Wk p L b dn t.1 (fX t.2) {S with T:=S.T.eraseIdx n}:=by
 have tm:=aN hn;obtain⟨nl,en⟩:=aF.mp hn
 have pT:S.T.Perm (t::S.T.eraseIdx n):=by
  have e1:S.T=S.T.take n++t::S.T.drop (n+1):=by rw[<-en,<-eF nl,gP]
  rw[cR];exact(e1▸List.Perm.refl S.T:S.T.Perm (S.T.take n++t::S.T.drop (n+1))).trans mD
 have pw:(wrR S.T).Perm (t.2.map rwP++wrR (S.T.eraseIdx n)):=pT.flatMap_right _;have ps:((fX t.2).map rwP).Perm (t.2.map rwP):=(gI t.2).map _;have nd:=W.nd;rw[dJ,bZ] at nd
 have pall:(dn++(fX t.2).map rwP++wrR (S.T.eraseIdx n)).Perm (dn++wrR S.T):=by rw[dL];exact((ps.append_right _).trans pw.symm).append_left _
 have ndt:t.2.Nodup:=by have h1:=(aY.mp<|pw.nodup_iff.mp (aY.mp nd).2.1).1;exact List.Pairwise.of_map _ (λa c h e=>h<|by rw[e]) h1
 have er:∀s∈S.T.eraseIdx n,s∈S.T:=λs hs=>iL hs
 have sub:∀c∈wrR (S.T.eraseIdx n),c∈wrR S.T:=λc hc=>pw.symm.mem_iff.mp<|aH _ hc
 have sub2:∀y∈fX t.2,rwP y∈wrR S.T:=λy hy=>pw.symm.mem_iff.mp (aS _<|aX.mpr ⟨y,(gI t.2).mem_iff.mp hy,rfl⟩)
 have cv:∀c,Cov p L S [] c->Cov p L {S with T:=S.T.eraseIdx n} (fX t.2) c:=λc h=>by
  rcases h with h|h|h
  ·rcases aK.mp (pw.mem_iff.mp h) with h|h
   ·exact .inr (.inl<|ps.symm.mem_iff.mp h)
   ·exact .inl h
  ·cases h
  ·exact .inr<|.inr h
 have ek:wtK (S.T.eraseIdx n)=(wtK S.T).eraseIdx n:=by unfold wtK;rw[cR,cR,aU,qB,qC]
 refine⟨ndt,⟨by rw[ek];exact W.ok.nk.sublist<|eG _ _,W.ok.kn,W.ok.nd⟩,λs hs=>W.ne s<|er s hs,λs hs=>W.wt s<|er s hs,λy hy=>W.wt t tm y<|(gI t.2).mem_iff.mp hy,xV ndt,λ_ s hs=> ?_,pall.nodup_iff.mpr nd,W.fd,λc hc=> ?_,W.du,W.srt,λe he y hy=>W.lt2 e he _<|sub2 y hy,λe he c hc=>W.lt2 e he c<|sub c hc,λe he k hk hle=>cv _<|W.cl e he k hk hle,λh=>cv _<|W.st h⟩
 ·refine aGW (λe=> ?_) (hm s<|er s hs);have nk:=W.ok.nk;have pk:(wtK S.T).Perm (rkK t.1::wtK (S.T.eraseIdx n)):=pT.map _;have:=(bA.mp<|pk.nodup_iff.mp nk).1;refine this ?_;rw[e];exact aX.mpr ⟨s,hs,rfl⟩
 ·refine W.par c ?_;rw[dJ,bZ];exact pall.mem_iff.mp hc
theorem aEK(hne:T≠[]):∃t:(Int×Int)×List Pr2,T[eC T]? =some t/\∀s∈T,¬ rlt s.1 t.1:=by
 have l0:0<T.length:=iG.mpr hne
 have em:(wtK T).map lN=T.map λt=>rkD t.1:=by unfold wtK;rw[bH];rfl
 have ln:((wtK T).map lN).length=T.length:=by rw[em,aB]
 have gd:∀i,i<T.length->((wtK T).map lN).getD i .non=rkD ((T.map (·.1)).getD i (0,0)):=λi hi=>by rw[em];simp[cP,hi]
 have eb:eC T=AZ (λi k=>decide (rlt ((T.map (·.1)).getD i (0,0)) ((T.map (·.1)).getD k (0,0)))) (T.length-1):=by unfold eC jA;rw[ln];exact oD _ λi j hi hj=>by rw[gd i<|by omega,gd j<|by omega,aFK]
 have bl:=sD (λi k=>decide (rlt ((T.map (·.1)).getD i (0,0)) ((T.map (·.1)).getD k (0,0))))<|T.length-1;have bm:=uQ (T.map (·.1)) (T.length-1) (by rw[aB];omega);rw[<-eb] at bl bm;generalize eC T=n at bl bm;have hn:n<T.length:=by omega
 refine⟨T[n],dW hn,λs hs=> ?_⟩;obtain⟨j,hj⟩:=cZ hs;have lj:j<T.length:=(aF.mp hj).1;have:=bm j (by omega);have e1:(T.map (·.1)).getD j (0,0)=s.1:=by simp[cP,hj]
 have e2:(T.map (·.1)).getD n (0,0)=T[n].1:=by simp[cP,hn]
 rw[e1,e2] at this;exact this
noncomputable def fd0(p:Int×Int)(b:Int):FdS:=⟨if 0<=b then[((0,0),[nP ([],st0 p)])] else[],[],[]⟩
noncomputable def bkF(p:Int×Int)(L:List SK)(b:Int):List (Int×List Nat×List Nat):=(iA p L b 4002<|fd0 p b).fd
theorem wk0(p:Int×Int)(L:List SK)(b:Int):Wk p L b [] (0,0) [] (fd0 p b):=by
 have e:nP ([],st0 p)=itP p L []:=rfl
 by_cases h:0<=b
 ·have e0:fd0 p b=⟨[((0,0),[itP p L []])],[],[]⟩:=by unfold fd0;rw[if_pos h,e]
  have ew:wrR [((0,0),[itP p L []])]=[[]]:=by show[rwP<|itP p L []]++[]=_;rw[nY];rfl
  rw[e0];refine⟨⟨by simp[wtK],rfl,cH⟩,λt ht=> ?_,λt ht y hy=> ?_,λy hy=>(nomatch hy),List.Pairwise.nil,λh=>absurd rfl h, ?_,λe he=>(nomatch he),λrow hr=> ?_,λrow hr=>(nomatch hr),List.Pairwise.nil,λe he=>(nomatch he),λe he=>(nomatch he),λe he=>(nomatch he),λ_=>.inl ?_⟩
  ·rw[aD.mp ht];simp
  ·rw[aD.mp ht] at hy ⊢;exact⟨[],aD.mp hy,λi hi=>(nomatch hi),rfl,h⟩
  ·show(wrR [((0,0),[itP p L []])]).Nodup;rw[ew];simp
  ·have hr:row∈wrR [((0,0),[itP p L []])]:=hr;rw[ew] at hr;exact .inl<|aD.mp hr
  ·show[]∈wrR [((0,0),[itP p L []])];rw[ew];exact bI _
 ·have e0:fd0 p b=⟨[],[],[]⟩:=by unfold fd0;rw[if_neg h]
  rw[e0];exact⟨⟨cH,rfl,cH⟩,λt ht=>(nomatch ht),λt ht=>(nomatch ht),λy hy=>(nomatch hy),List.Pairwise.nil,λh=>absurd rfl h,cH,λe he=>(nomatch he),λrow hr=>(nomatch hr),λrow hr=>(nomatch hr),List.Pairwise.nil,λe he=>(nomatch he),λe he=>(nomatch he),λe he=>(nomatch he),λz=>absurd z h⟩
theorem Wk.take(hpr:∀k,k<L.length->1<=prK L k)(W:Wk p L b dn r rest S):∀j,j<=rest.length->Wk p L b (dn++(rest.take j).map rwP) r (rest.drop j) (fdP p L b r S<|rest.take j)
 |0,_=>by rw[aKt,dJ,bZ];exact W
 |j+1,hj=>by
  have ih:=Wk.take hpr W j (by omega);have lj:j<rest.length:=by omega
  rw[eF lj] at ih;have:=ih.step hpr;rw[<-uL] at this
  have et:rest.take (j+1)=rest.take j++[rest[j]]:=by rw[eX,dW lj];rfl
  rw[et,aU,<-dL];exact this
theorem Wk.turn(hpr:∀k,k<L.length->1<=prK L k)(W:Wk p L b dn r [] S)(hne:S.T≠[]):∃t:(Int×Int)×List Pr2,S.T[eC S.T]? =some t/\(∀s∈S.T,¬ rlt s.1 t.1)/\t.2.Nodup/\t.2≠[]/\Wk p L b dn t.1 (fX t.2) {S with T:=S.T.eraseIdx (eC S.T)}/\fdT p L b S=fdP p L b t.1 {S with T:=S.T.eraseIdx (eC S.T)} (fX t.2)/\Wk p L b (dn++(fX t.2).map rwP) t.1 [] (fdT p L b S):=by
 obtain⟨t,ht,hm⟩:=aEK hne;obtain⟨n1,W1⟩:=W.pop ht hm
 have e:fdT p L b S=fdP p L b t.1 {S with T:=S.T.eraseIdx (eC S.T)} (fX t.2):=by unfold fdT;rw[ht]
 refine⟨t,ht,hm,n1,W.ne t<|aN ht,W1,e, ?_⟩;have:=W1.take hpr (fX t.2).length<|aO _;rw[fJ,List.drop_length] at this;rw[e];exact this
theorem uE(hpr:∀k,k<L.length->1<=prK L k){M:Nat}:∀ (m:Nat) {dn:List (List Nat)}{r:Int×Int}{S:FdS},Wk p L b dn r [] S->1+M*L.length<dn.length+m->∃dn' r',Wk p L b dn' r' [] (iA p L b m S)/\((iA p L b m S).T=[]\/M<(iA p L b m S).fd.length)
 |0,dn,r,S,W,h=>by
  refine⟨dn,r,W,.inr ?_⟩;show M<S.fd.length;refine mG λq=> ?_
  have:=W.few2;have:=jT L.length q;omega
 |m+1,dn,r,S,W,h=>by
  show ∃dn' r',Wk p L b dn' r' [] (if S.T=[] then S else iA p L b m (fdT p L b S))/\((if S.T=[] then S else iA p L b m (fdT p L b S)).T=[]\/M<(if S.T=[] then S else iA p L b m (fdT p L b S)).fd.length)
  by_cases q:S.T=[]
  ·rw[if_pos q];exact⟨dn,r,W,.inl q⟩
  ·rw[if_neg q];obtain⟨t,_,_,_,ne,_,_,W2⟩:=W.turn hpr q;refine uE hpr m W2 ?_
   have:0<(fX t.2).length:=by rw[(gI t.2).length_eq];exact iG.mpr ne
   rw[aM,aB];omega
theorem wX(b:Int)(r:Int×Int):∀ (xs:List Pr2) (S:FdS),S.fd<+:(fdP p L b r S xs).fd
 |[],S=>jJ _
 |y::xs,S=>by
  show S.fd<+:(fdP p L b r (fdI p L b r S<|unP y) xs).fd;refine List.IsPrefix.trans ?_<|wX b r xs _;unfold fdI
  split
  ·exact jJ _
  ·exact List.prefix_append ..
theorem aHt(S:FdS):S.fd<+:(fdT p L b S).fd:=by
 unfold fdT
 split
 ·exact jJ _
 ·exact wX b _ _ {S with T:=S.T.eraseIdx (eC S.T)}
theorem aBx:∀ (m:Nat) (S:FdS),S.fd<+:(iA p L b m S).fd
 |0,S=>jJ _
 |m+1,S=>by
  show S.fd<+:(if S.T=[] then S else iA p L b m (fdT p L b S)).fd
  split
  ·exact jJ _
  ·exact(aHt S).trans<|aBx m _
structure BkFOk(p:Int×Int)(L:List SK)(b:Int)(B:List (Int×List Nat×List Nat)):Prop where
 len:B.length<=500
 ent:∀e∈B,jF L e.2.1/\e.1=S45.prQ (prK L) e.2.1/\e.1<=b/\e.2.2=nrQ p L e.2.1/\e.2.1.length<=300
 nd:(B.map λe=>e.2.2).Nodup
 srt:(B.map λe=>e.2.1).Pairwise (klt L)
 cl:∀e∈B,∀k,k<L.length->e.1+prK L k<=b->∃e'∈B,e'.2.2=nrQ p L (e.2.1++[k])/\kle L e'.2.1 (e.2.1++[k])
 st:0<=b->∃e∈B,e.2.2=nrQ p L []/\kle L e.2.1 []
structure Fit(p:Int×Int)(L:List SK)(b:Int):Prop where
 l8:L.length<=8
 b3:b<=300
 le:(bkF p L b).length<=500
theorem aAX{pr:Nat->Int}:∀ (row:List Nat),(∀k∈row,1<=pr k)->(row.length:Int)<=S45.prQ pr row
 |[],_=>lG _
 |k::row,h=>by
  have ih:=aAX row λj hj=>h j<|aC _ hj
  have h1:=h k<|aE ..;show((row.length+1:Nat):Int)<=(pr k::row.map pr).sum;rw[aKJ];unfold S45.prQ at ih;omega
theorem aHw(hpr:∀k,k<L.length->1<=prK L k)(F:Fit p L b):∃dn r,Wk p L b dn r [] (iA p L b 4002<|fd0 p b)/\(iA p L b 4002<|fd0 p b).T=[]:=by obtain⟨dn,r,W,e⟩:=uE (M:=500) hpr 4002 (wk0 p L b) (by have:=F.l8;simp;omega);exact⟨dn,r,W,e.resolve_right<|by have:=F.le;unfold bkF at this;omega⟩
theorem aFs(hpr:∀k,k<L.length->1<=prK L k)(F:Fit p L b):BkFOk p L b (bkF p L b):=by
 obtain⟨dn,r,W,e⟩:=aHw hpr F
 have cv:∀c,Cov p L (iA p L b 4002<|fd0 p b) [] c->∃e∈(iA p L b 4002<|fd0 p b).fd,e.2.2=nrQ p L c/\kle L e.2.1 c:=λc h=>by
  rcases h with h|h|h
  ·rw[e] at h;cases h
  ·cases h
  ·exact h
 refine⟨F.le,λe he=> ?_,by have:=W.ok.nd;rw[W.ok.kn] at this;exact this,W.srt,λe he k hk hle=>cv _<|W.cl e he k hk hle,λh=>cv _<|W.st h⟩;obtain⟨h1,h2,h3,h4,h5⟩:=W.fd e he;refine⟨h2,h3,h4,h5, ?_⟩;have:=aAX (pr:=prK L) e.2.1 λk hk=>hpr k<|h2 k hk
 have:=F.b3;omega
theorem BkFOk.all{B:List (Int×List Nat×List Nat)}(hpr:∀k,k<L.length->1<=prK L k)(O:BkFOk p L b B):∀row,jF L row->S45.prQ (prK L) row<=b->∃e∈B,e.2.2=nrQ p L row/\kle L e.2.1 row:=by
 have g:∀ (n:Nat) (row:List Nat),row.length=n->jF L row->S45.prQ (prK L) row<=b->∃e∈B,e.2.2=nrQ p L row/\kle L e.2.1 row:=λn=>by
  induction n with
  |zero=>intro row hl _ hb;have:row=[]:=cD hl;subst this;exact O.st hb
  |succ n ih=>
   intro row hl ho hb;have hne:row≠[]:=λz=>by rw[z] at hl;cases hl
   have ed:=fA hne;generalize row.dropLast=q at ed;generalize row.getLast hne=k at ed;subst ed;have kn:k<L.length:=ho k (by simp);have h1:=hpr k kn;rw[S45.pr_snoc] at hb;obtain⟨e,he,e1,e2⟩:=ih q (by simpa using hl) (λi hi=>ho i<|aS _ hi) (by omega);obtain⟨_,h3,_,h5,_⟩:=O.ent e he
   have le:S45.prQ (prK L) e.2.1<=S45.prQ (prK L) q:=by
    rcases e2 with z|(z|⟨z,_⟩)
    ·rw[z];exact lG _
    ·have:(rkR L e.2.1).1<=(rkR L q).1:=by unfold rlt at z;omega
     exact this
    ·exact aMi<|congrArg Prod.fst z
   obtain⟨e',he',e3,e4⟩:=O.cl e he k kn (by omega);refine⟨e',he', ?_,aJN e4<|aDG k e2⟩;rw[e3,xL,xL,<-h5,e1]
 exact λrow=>g row.length row rfl
noncomputable def fdD(e:Int×List Nat×List Nat):D:=.tup [.int e.1,.tup<|cN e.2.1,.tup<|cN e.2.2]
def aFc:List D->R->Prop:=λds r=>∃p L b,p∈cG/\StkOk p L/\Fit p L b/\ds=[.lst (L.map<|mvD p),.int b,.tup (cN<|st0 p)]/\r=.own ((bkF p L b).map fdD)
noncomputable def wD(ds:List D):List Nat:=ds.map λd=>match d with | .int i=>i.toNat|_=>0
theorem aBV(l:List Nat):wD (cN l)=l:=by unfold wD cN;rw[bH];exact(cA λi _=>dM i).trans<|lB l
noncomputable def unE:D->Int×List Nat×List Nat
 |.tup [.int a,.tup r,.tup n]=>(a,wD r,wD n)
 |_=>(0,[],[])
theorem aGn(e:Int×List Nat×List Nat):unE (fdD e)=e:=by show(e.1,wD<|cN e.2.1,wD<|cN e.2.2)=e;rw[aBV,aBV]
noncomputable def bkQ(p:Int×Int)(L:List SK)(b:Int):List Bk:=(bkF p L b).map λe=>(e.1,e.2.1,jR p e.2.2)
def aGm:List D->R->Prop:=λds r=>∃p L b,p∈cG/\StkOk p L/\(L.map λs=>sqD s.1).Nodup/\Fit p L b/\ds=[cQ p,.lst<|L.map skD,.int b]/\r=.own ((bkQ p L b).map enD)
section
open PySem.W PySem.Calls Att
end
section
open PySem.SeqAt
open PySem.AutoSeq1 (wpAny_loadPart')
open PySem.MeetsSeq PySem.MeetsSeq2 PySem.MeetsSeq3
end
section
variable {T:Type}[DecidableEq T]{n:Nat}{pr:Nat->Int}{beh:Nat->T->T}{t0:T}
theorem zS{t:Int}{x:S45.Ent T}:∀ (rest:List (List Nat×T)) (s:List (S45.Ent T)×S45.Lay T),x∈s.1->x∈(rest.foldl (S45.one n pr beh t) s).1
 |[],_,h=>h
 | e::rest,s,h=>zS rest _ (by
  unfold S45.one
  split
  ·exact aS _ h
  ·exact h)
theorem aFw:∀t:Nat,∃c,(c,[],t0)∈(S45.run n pr beh t0<|t+1).1
 | 0=>⟨_,by
  show _∈(S45.one n pr beh ((0:Nat):Int) ([],S45.lay0 t0) ([],t0)).1;unfold S45.one;rw[if_pos ⟨by simp,bJ _⟩]
  exact bI _⟩
 |t+1=>by obtain⟨c,h⟩:=aFw t;exact⟨c,zS _ _ h⟩
end
theorem aIP{β:Type}[DecidableEq β]{f:α->β}{A:List α}{C:List β}(h:(A.map f).Nodup)(s:∀a∈A,f a∈C):A.length<=C.length:=by
 have:=h.length_le_of_subset (l₂:=C) λx hx=>by obtain⟨a,ha,rfl⟩:=aX.mp hx;exact s a ha
 rwa[aB] at this
theorem aEZ(hp:p∈cG)(S:StkOk p L){b:Nat}(b3:b<=300):((iT p L<|b+1).1.length<=500->Fit p L b/\(bkQ p L b).length=(iT p L<|b+1).1.length)/\(500<(iT p L<|b+1).1.length->500<(bkF p L b).length):=by
 have hpr:=S.pr;have l8:=S.le;have nr:∀ {row:List Nat},jF L row->NOk p (nrQ p L row)/\jR p (nrQ p L row)=S45.tabQ (hW p L) (cX p) row:=λh=>aAS hp (λs hs=>(S.st s hs).1) h
 have o:S45.Ok L.length (prK L) (hW p L) (cX p) (b:Int) [] (iT p L<|b+1):=S45.ok_end hpr b;obtain⟨c0,st⟩:∃c,(c,[],cX p)∈(iT p L<|b+1).1:=aFw b;generalize (iT p L<|b+1)=s at o st;obtain⟨dn,r,W,_⟩:=uE (p:=p) (b:=(b:Int)) (M:=500) hpr 4002 (wk0 p L b) (by simp;omega)
 have ndB:((bkF p L b).map λe=>e.2.2).Nodup:=by have:=W.ok.nd;rw[W.ok.kn] at this;exact this
 have inB:∀e∈bkF p L b,jF L e.2.1/\S45.prQ (prK L) e.2.1<=b/\e.2.2=nrQ p L e.2.1:=λe he=>by obtain⟨h1,h2,h3,h4,h5⟩:=W.fd e he;exact⟨h2,by omega,h5⟩
 have rev:Fit p L b->s.1.length<=(bkF p L b).length:=λF=>by
  have O:=aFs (p:=p) hpr F
  have:=aIP (f:=λe:Bk=>e.2.2) (C:=(bkF p L b).map λe=>jR p e.2.2) o.nd λx hx=>by obtain⟨h1,h2,h3,h4,h5⟩:=o.ent x hx;obtain⟨e,he,e1,_⟩:=O.all hpr x.2.1 h4 (by omega);exact aX.mpr ⟨e,he,by rw[e1,(nr h4).2,h5]⟩
  rwa[aB] at this
 refine⟨λh=> ?_,λh=> ?_⟩
 ·have hold:S45.HoldsP L.length (prK L) (hW p L) (b:Int) s.1:=S45.holds_all hpr o (lG _) (qY b) (λz=>by rw[z] at st;cases st) (cC (nM _ _) h) λx=>⟨λhx=>⟨hx,(o.ent x hx).2.1⟩,λhx=>hx.1⟩
  have all:∀ (m:Nat) (row:List Nat),row.length=m->jF L row->S45.prQ (prK L) row<=b->∃e∈s.1,e.2.2=S45.tabQ (hW p L) (cX p) row/\e.1<=S45.prQ (prK L) row:=λm=>by
   induction m with
   |zero=>intro row hl _ _;have:row=[]:=cD hl;subst this;have:=(o.ent _ st).2.2.1;exact⟨_,st,rfl,aMi this⟩
   |succ m ih=>intro row hl ho hb;obtain⟨q,k,rfl⟩:∃q k,row=q++[k]:=⟨row.dropLast,row.getLast (λz=>by rw[z] at hl;cases hl),(fA _).symm⟩;have kn:k<L.length:=ho k (by simp);have h1:=hpr k kn;rw[S45.pr_snoc] at hb;obtain⟨e,he,e1,e2⟩:=ih q (by simpa using hl) (λi hi=>ho i<|aS _ hi) (by omega);obtain⟨e',he',g1,g2⟩:=hold.2 e he k kn (by omega);refine⟨e',he',by rw[g1,e1,S45.tab_snoc], ?_⟩;rw[S45.pr_snoc];omega
  have le:(bkF p L b).length<=s.1.length:=by
   have nd2:((bkF p L b).map λe=>jR p e.2.2).Nodup:=by unfold List.Nodup at ndB ⊢;rw[lC] at ndB ⊢;refine List.Pairwise.imp_of_mem (λ{a c} ha hc h z=>h ?_) ndB;obtain⟨a1,_,a3⟩:=inB a ha;obtain⟨c1,_,c3⟩:=inB c hc;rw[a3,c3] at z ⊢;exact aEi hp (nr a1).1 (nr c1).1 z
   have:=aIP (C:=s.1.map λe=>e.2.2) nd2 λe he=>by obtain⟨h1,h2,h3⟩:=inB e he;obtain⟨x,hx,x1,_⟩:=all _ e.2.1 rfl h1 h2;exact aX.mpr ⟨x,hx,by rw[x1,h3,(nr h1).2]⟩
   rwa[aB] at this
  have F:Fit p L b:=⟨l8,by omega,cC le h⟩;exact⟨F,by unfold bkQ;rw[aB];exact Nat.le_antisymm le<|rev F⟩
 ·refine mG λz=> ?_
  have:=rev ⟨l8,by omega,z⟩;omega
def FI(K:aA)(mg:Str->Option BD)(n:Str)(st:BJ):Prop:=∃f fd,mg n=some (.ref f)/\Fun K n n st f fd
theorem FI.mk{h:BH}{mg:Str->Option BD}{n:Str}{st:BJ}{od an:Option BF}{sl:Array (Option BD)}{oc kV dc pm cd ct:BD}{f:BF}(X:K.In h)(G:h.Ns AO mg)(a:fC K AO n=some (some<|.ref f))(l:K.lookup f=some ⟨oc,od,.func<|dI n n (gL st) (dY st) (bF st) .none kV dc pm an cd ct,sl⟩)(c:iV K cd n=true)(k:eO K (.ref f)=true):FI K mg n st:=⟨f,_,fF X G a,aFf (st:=st) l c k⟩
structure aKD(K:aA)(mg:Str->Option BD)(CN:BF):Prop where
 xc:aFY K CN
 ex:kN K CN aKM "ValueError.__new__"=true
 le:∃C:BF,mg "LeastError"=some (.ref C)/\bP K (.ref CN) (.ref C)=some true
 nw:mg "TooGreat"=some (.ref CN)/\uS K (.ref CN) (.ref CN)=some true
 ve:mg "ValueError"=none/\bP K (.ref CN) (.type "ValueError")=some true
 nc:∃C:BF,mg "NoChange"=some (.ref C)/\bP K (.ref CN) (.ref C)=some false
 nt:∃C:BF,mg "NoText"=some (.ref C)/\bP K (.ref CN) (.ref C)=some false
 nd:∃C:BF,mg "NoWindow"=some (.ref C)/\bP K (.ref CN) (.ref C)=some false
 ns:∃C:BF,mg "NoWish"=some (.ref C)/\bP K (.ref CN) (.ref C)=some false
def Gr(p:Int×Int)(L:List SK)(b:Int):Prop:=b<=300/\500<(bkF p L b).length
def aFv:List D->Prop:=λds=>∃p L b,p∈cG/\StkOk p L/\Gr p L b/\ds=[.lst (L.map<|mvD p),.int b,.tup (cN<|st0 p)]
def xT:List D->Prop:=λds=>∃p L b,p∈cG/\StkOk p L/\(L.map λs=>sqD s.1).Nodup/\Gr p L b/\ds=[cQ p,.lst<|L.map skD,.int b]
def aFh:List D->R->Prop:=λds r=>∃p L b,p∈cG/\StkOk p L/\(L.map λs=>sqD s.1).Nodup/\Gr p L b/\ds=[cQ p,.lst<|L.map skD,.int b]/\r=.val (.bl true)
noncomputable def cnD(p:Int×Int)(L:List SK)(t:Nat):List D:=(bQ t).map λj=>.int ((iT p L<|j+1).1.length:Int)
def aFu:List D->R->Prop:=λds r=>∃p L,p∈cG/\StkOk p L/\ds=[cQ p,.lst<|L.map skD,.int 500]/\r=.own (cnD p L 41)
noncomputable def tlD(x:List Nat×List (List Int)):D:=.tup<|x.2.map bK
noncomputable def lyT(s:aLQ):Int->List D:=λj=>(s.2 j).map tlD
noncomputable def prG(d:Bool)(x:Int):Int:=if d then 9 else 1+mxS x 5%2
noncomputable def gkN(p:Int×Int)(ns:List Int)(d:Bool):Nat->List SK
 |0=>[]
 |t+1=>if sS (gkN p ns d t) (drQ p<|ns.getD (2+t) 0+(t:Int)) then gkN p ns d t else gkN p ns d t++[(drQ p<|ns.getD (2+t) 0+(t:Int),prG d<|ns.getD (2+t) 0+(t:Int))]
noncomputable def gkP(ns:List Int):Int×Int:=if mxS (ns.getD 0 0) 1%4=1 then(3,1) else(1,3)
theorem aJD(ns:List Int):gkP ns∈cG:=by
 unfold gkP
 split<;>decide
theorem aKq(d:Bool)(x:Int):1<=prG d x/\prG d x<=9:=by
 unfold prG
 split<;>omega
theorem aAZ{p:Int×Int}(hp:p∈cG)(ns:List Int)(d:Bool):∀t,(gkN p ns d t).length<=t/\(0<t->0<(gkN p ns d t).length)/\(∀s∈gkN p ns d t,oW p s.1/\1<=s.2/\s.2<=9)/\((gkN p ns d t).map λs=>sqD s.1).Nodup
 |0=>⟨aO _,λh=>by omega,λs hs=>(nomatch hs),cH⟩
 |t+1=>by
  obtain⟨a,b,c,g⟩:=aAZ hp ns d t;have e:gkN p ns d (t+1)=if sS (gkN p ns d t) (drQ p<|ns.getD (2+t) 0+(t:Int)) then gkN p ns d t else gkN p ns d t++[(drQ p<|ns.getD (2+t) 0+(t:Int),prG d<|ns.getD (2+t) 0+(t:Int))]:=rfl
  rw[e];clear e;generalize gkN p ns d t=L at a b c g;generalize ns.getD (2+t) 0+(t:Int)=x;cases h:sS L (drQ p x) with
  |true=>
   rw[if_pos rfl];refine⟨by omega,λ_=> ?_,c,g⟩;cases L with
   |nil=>cases h
   |cons _ _=>simp
  |false=>
   rw[if_neg aZ];refine⟨by rw[aM];simp;omega,λ_=>by rw[aM];simp,λs hs=> ?_, ?_⟩
   ·rcases aK.mp hs with hs|hs
    ·exact c s hs
    ·rw[aD.mp hs];exact⟨aKp hp _,aKq d x⟩
   ·rw[aU];refine aY.mpr ⟨g,by simp,λy hy z hz q=>aGG h ?_⟩;have:z=sqD (drQ p x):=by simpa using hz
    rw[<-this,<-q];exact hy
noncomputable def gkM(ns:List Int):Nat:=([5,6,5,8]:List Nat).getD (mxS (ns.getD 1 0) 7%4).toNat 5
noncomputable def gkL(p:Int×Int)(ns:List Int):List SK:=gkN p ns (decide<|mxS (ns.getD 1 0) 6%5=1)<|gkM ns
theorem aFe(ns:List Int):5<=gkM ns/\gkM ns<=8/\([.int 5,.int 6,.int 5,.int 8]:List D)[(mxS (ns.getD 1 0) 7%4).toNat]? =some (.int (gkM ns:Int)):=by
 have h:(mxS (ns.getD 1 0) 7%4).toNat<4:=by omega
 unfold gkM;generalize (mxS (ns.getD 1 0) 7%4).toNat=i at h;have:i=0\/i=1\/i=2\/i=3:=by omega
 rcases this with rfl|rfl|rfl|rfl<;>exact⟨by decide,by decide,rfl⟩
theorem aKj(hp:p∈cG)(ns:List Int):StkOk p (gkL p ns)/\((gkL p ns).map λs=>sqD s.1).Nodup:=by obtain⟨m1,m2,_⟩:=aFe ns;obtain⟨a,b,c,d⟩:=aAZ hp ns (decide<|mxS (ns.getD 1 0) 6%5=1)<|gkM ns;exact⟨⟨b<|by omega,cC a m2,c⟩,d⟩
def aIV:List D->R->Prop:=λds r=>∃p ns,p∈cG/\ds=[.scr ns,cQ p]/\r=.own ((gkL p ns).map skD)
noncomputable def fwQ(p:Int×Int)(L:List SK):List Nat:=(bQ 41).filter λt=>decide<|(iT p L<|t+1).1.length<=500
theorem aLd(p:Int×Int)(L:List SK):∃ (b:Nat) (q:List Nat),fwQ p L=q++[b]/\b<=40/\(iT p L<|b+1).1.length<=500/\∀t,b<t->t<=40->500<(iT p L<|t+1).1.length:=by
 have h0:0∈fwQ p L:=fR.mpr ⟨by decide,decide_eq_true (by
  show(S45.one L.length (prK L) (hW p L) ((0:Nat):Int) ([],S45.lay0<|cX p) ([],cX p)).1.length<=500;unfold S45.one
  split
  ·show 1<=500;decide
  ·exact bJ _)⟩
 have hne:fwQ p L≠[]:=λz=>by rw[z] at h0;cases h0
 have e:=(fA hne).symm;have hm:=aIa hne;generalize (fwQ p L).getLast hne=b at e hm;generalize (fwQ p L).dropLast=q at e;obtain⟨h1,h2⟩:=fR.mp hm;refine⟨b,q,e,by have:=dU.mp h1;omega,of_decide_eq_true h2,λt ht h4=>mG λz=> ?_⟩;have srt:(fwQ p L).Pairwise (·<·):=List.pairwise_lt_range.filter _;have tm:t∈fwQ p L:=fR.mpr ⟨dU.mpr<|by omega,decide_eq_true z⟩;rw[e] at srt tm
 rcases aK.mp tm with tm|tm
 ·have:=(jO.mp srt).2.2 t tm b<|bI b;omega
 ·have:=aD.mp tm;omega
theorem aKy{us:List α}(h:us.length=n+1):∃a r,us=a::r/\r.length=n:=by
 cases us with
 |nil=>cases h
 |cons a r=>exact⟨a,r,rfl,aFQ.inj h⟩
theorem aKU{us:List α}(h:us.length=1):∃a,us=[a]:=by obtain⟨a,r,rfl,h2⟩:=aKy h;exact⟨a,by rw[cD h2]⟩
theorem aKS{us:List α}(h:us.length=2):∃a b,us=[a,b]:=by obtain⟨a,r,rfl,h2⟩:=aKy h;obtain⟨b,rfl⟩:=aKU h2;exact⟨a,b,rfl⟩
theorem aKT{us:List α}(h:us.length=3):∃a b c,us=[a,b,c]:=by obtain⟨a,r,rfl,h2⟩:=aKy h;obtain⟨b,c,rfl⟩:=aKS h2;exact⟨a,b,c,rfl⟩
theorem aLK{us:List α}(h:us.length=4):∃a b c d,us=[a,b,c,d]:=by obtain⟨a,r,rfl,h2⟩:=aKy h;obtain⟨b,c,d,rfl⟩:=aKT h2;exact⟨a,b,c,d,rfl⟩
variable {p:Pos}{d:D}
theorem pdv(i:Nat)(hs:sd[i]? =some (.val d):=by rfl)(h:PE X (.Name x pos) (iX i):=by exact pv _):PEd X sd (.Name x pos) (.val d):=mR i hs h
theorem jE(i:Nat)(h:PEd X sd e (.val d))(hE:E.nx (sd.set i<|.val d))(hN:X.N.Nodup:=by assumption)(hi:X.N[i]? =some x:=by rfl)(hx:Loc X.env.scope x:=by first|exact Or.inl rfl|exact Or.inr rfl)(hs:AV e (some<|.Name x p) pos.line X.env=pure false:=by rfl)
  (hf:X.fn x=true\/X.env.scope.names.lookup x=some .local:=by first|exact .inl rfl|exact .inr rfl|assumption):PSd1 X sd (.Assign [.Name x p] e pos) E:=iF i hN hi hx h hE hs hf
theorem qR(i:Nat)(h:PEd X sd e (.own ds))(hE:∀l,E.nx (sd.set i<|.own l ds))(hN:X.N.Nodup:=by assumption)(hi:X.N[i]? =some x:=by rfl)(hx:Loc X.env.scope x:=by first|exact Or.inl rfl|exact Or.inr rfl)(hs:AV e (some<|.Name x p) pos.line X.env=pure false:=by rfl)
  (hf:X.fn x=true\/X.env.scope.names.lookup x=some .local:=by first|exact .inl rfl|exact .inr rfl|assumption):PSd1 X sd (.Assign [.Name x p] e pos) E:=oX i hN hi hx h hE hs hf
theorem pgn(i:Nat)(hN:X.N.Nodup:=by assumption)(hi:X.N[i]? =some x:=by rfl)(hx:Loc X.env.scope x:=by first|exact Or.inl rfl|exact Or.inr rfl)(hf:X.fn x=true\/X.env.scope.names.lookup x=some .local:=by first|exact .inl rfl|exact .inr rfl|assumption):PG X (.Name x pos) (aAV i):=aBX hN hi hx hf
noncomputable abbrev tN(l:List Nat):D:=.tup<|cN l
noncomputable abbrev lK(L:List SK):D:=.lst<|L.map skD
noncomputable abbrev tL(l:List (List Int)):D:=.lst<|l.map bK
noncomputable abbrev rtE(r:R):gY:={nx:=λ_=>r=.val .non,rt:=λr'=>r'=r}
theorem uN{k:Nat}(r:Room k A)(n:Nat)(h:n<=8:=by decide):A.units+n<AQ:=by have:=r.un;omega
noncomputable def NB:R->Prop
 |.bor _=>False
 |_=>True
variable {es:List Expr}{r:R}{rest:List BJ}
theorem nQ(h:PEd X sd e r)(hE:E.rt r:=by rfl)(hr:NB r:=by trivial):PSd1 X sd (.Return (some e) pos) E:=dR h (by cases r<;>first|trivial|exact hr) hE
theorem psdF{x:List BJ}(h:PTd X sd c false)(k:PSd X sd rest E):PSd X sd (.If c x [] pos::rest) E:=aI (fB h rfl<|cM k)
theorem pdc{k:Nat}{C:List D->R->Prop}(G:bU X.prog X.w X.K X.mg X.base x k n C){j:Nat}(hr:Room j X.A)(ha:PAd X sd (e::es) (ds.map R.val))(hc:C ds r)(hj:k<=j:=by decide)(hg:Gl X x:=by rfl)(hb:NB r:=by trivial)(hn:ds.length=n:=by rfl)
  (hdb:(x==("__debug__":Str))=false:=by decide) (he:AC (e::es) X.env=(false,eval e X.env)::AC es X.env:=by rfl) (hpl:(Ae pos<|AC es X.env).any (·.1)=false:=by rfl):
  PEd X sd (.Call (.Name x p) (e::es) [] pos) r:=aHD G (hr.mono hj) hg ha hc (by cases r<;>first|trivial|exact hb) hn hdb he hpl
theorem pdx{j:Nat}{p1:Pos}(ha:PEd X sd a (.val<|.tup ds))(hd:ds[n]? =some d:=by rfl):PEd X sd (.Subscript a (.Constant (.int (n:Int)) j p1) pos) (.val d):=aBo ha bW hd λ_ _=>rfl
theorem pdT{x1}(h:PAd X sd es (ds.map R.val))(hl:ds.length<=10000:=by exact eI rfl):PEd X sd (.Tuple es x1 pos) (.val<|.tup ds):=aBc h hl
theorem pdL(h:PAd X sd es (ds.map R.val))(hl:ds.length<=10000:=by exact eI rfl):PEd X sd (.List es pos) (.own ds):=mQ h hl
theorem pgN(i:Nat)(hN:X.N.Nodup:=by assumption)(hi:X.N[i]? =some x:=by rfl)(hx:Loc X.env.scope x:=by first|exact Or.inl rfl|exact Or.inr rfl)(hf:X.fn x=true\/X.env.scope.names.lookup x=some .local:=by first|exact .inl rfl|exact .inr rfl|assumption):PGd X sd (.Name x pos) d (sd.set i<|.val d):=aDS i<|aBX hN hi hx hf
theorem nxt{P:List Slot->Prop}{a b:List Slot}(h:P b)(l:Le a b:=by repeat' (first|exact trivial|refine⟨.inr rfl, ?_⟩|refine⟨.inl rfl, ?_⟩)):∃s,Le a s/\P s:=⟨b,l,h⟩
theorem pdC{tg iter elt:Expr}{ifs:List Expr}{scope:Scope}{N M:List Str}{cap:List (Option Nat)}{sc:Scope}{Tb:D->List Slot}(p:D->Bool)(f:D->D)
  (hi:PId X (unO sd) PT0 tg iter ds) (hl:ds.length<=10000)
  (ht:∀cl C fp s H d,d∈ds->(ifs=[]/\p d=true)\/∃c,ifs=[c]/\PTd (cxB X N scope cl C fp s H) (Tb d) c (p d))
  (he:∀cl C fp s H d,d∈ds->p d=true->PEd (cxB X N scope cl C fp s H) (Tb d) elt (.val<|f d))
  (hg:∀cl C fp s H d,d∈ds->PGd (cxB X N scope cl C fp s H) (kA cap sd) tg d (Tb d):=by exact λ_ _ _ _ _ _ _=>pgN 0)
  (hle:∀d,d∈ds->Le (Tb d) (kA cap sd):=by intro _ _;repeat' (first|exact trivial|refine⟨.inr rfl, ?_⟩|refine⟨.inl rfl, ?_⟩))
  (hsc:X.env.scope=sc:=by rfl) (hcn:kW scope sc=true:=by decide+kernel) (hM:X.N=M:=by rfl) (hcap:jW N M scope sc cap=true:=by decide+kernel) (hk:scope.kind=.function:=by rfl)
  (hc:X.calm=true:=by rfl) (hs:∀x,Ao iter X.env x=pure x:=by intro _;rfl):
  PEd X sd (.ListComp elt [⟨tg,iter,ifs,0⟩] scope pos) (.own<|(ds.filter p).map f):=kE p f hi hl hsc hcn hM hcap hk hg hle ht he hc hs
theorem dS{mg:Str->Option BD}{base:BH}{st:BJ}{N ps:List Str}{k:Nat}{C:List D->R->Prop}(F:FI K mg x st)
  (body:∀ (f:BF),N.Nodup→∀ (cdv:BD) (A:BG) (outer:List Env) (s:BE) (H:Hp) (E:XK),Room k (A.deeper (As x (bF st) s.heap.objs.size f cdv))→∀ds r,ds.length=ps.length→C ds r→
   PSd (jL CX0 P w K mg base N x (bF st) f cdv A outer s H E).nox (init N.length ds) (dY st) {nx:=λ_=>r=.val .non,rt:=λr'=>r'=r})
  (nd:N.Nodup:=by decide+kernel) (S:N.Nodup->jD N ps (bF st):=by exact λnd=>⟨rfl,rfl,rfl,nd,rfl,by decide+kernel,by decide+kernel⟩)
  (hb:∀ (kV doc pm:BD) (an:Option BF) (cdv ct:BD) (us:List BD),us.length=ps.length→bindArgs (dI x x (gL st) (dY st) (bF st) .none kV doc pm an cdv ct) ⟨us,[]⟩=pure (ps.zip us):=by
   intro _ _ _ _ _ _ _ h
   first
   |(obtain⟨_,rfl⟩:=aKU h;rfl)
   |(obtain⟨_,_,rfl⟩:=aKS h;rfl)
   |(obtain⟨_,_,_,rfl⟩:=aKT h;rfl)
   |(obtain⟨_,_,_,_,rfl⟩:=aLK h;rfl)
   |(obtain⟨_,_,_,_,_,rfl⟩:=len5 h;rfl)
   |(obtain⟨_,_,_,_,_,_,rfl⟩:=len6 h;rfl)):bU P w K mg base x (k+1) ps.length C:=by
 obtain⟨f,fd,hm,F⟩:=F;exact aIY F (S nd) hm hb<|body f nd
theorem zQ{mg:Str->Option BD}{base:BH}{st:BJ}{N ps:List Str}{k:Nat}{C:List D->Prop}{cls:BD}(F:FI K mg x st)
  (body:∀ (f:BF),N.Nodup→∀ (cdv:BD) (A:BG) (outer:List Env) (s:BE) (H:Hp) (E:XK),Room k (A.deeper (As x (bF st) s.heap.objs.size f cdv))→(∀a H',Same H H'→Smp H'→E (.ref a) (some a) H')→∀ds,ds.length=ps.length→C ds→
   PSd (jL (CX1 P w cls) P w K mg base N x (bF st) f cdv A outer s H E) (init N.length ds) (dY st) {nx:=λ_=>False,rt:=λ_=>False})
  (nd:N.Nodup:=by decide+kernel) (S:N.Nodup->jD N ps (bF st):=by exact λnd=>⟨rfl,rfl,rfl,nd,rfl,by decide+kernel,by decide+kernel⟩)
  (hb:∀ (kV doc pm:BD) (an:Option BF) (cdv ct:BD) (us:List BD),us.length=ps.length→bindArgs (dI x x (gL st) (dY st) (bF st) .none kV doc pm an cdv ct) ⟨us,[]⟩=pure (ps.zip us):=by
   intro _ _ _ _ _ _ _ h
   first
   |(obtain⟨_,rfl⟩:=aKU h;rfl)
   |(obtain⟨_,_,rfl⟩:=aKS h;rfl)
   |(obtain⟨_,_,_,rfl⟩:=aKT h;rfl)
   |(obtain⟨_,_,_,_,rfl⟩:=aLK h;rfl)
   |(obtain⟨_,_,_,_,_,rfl⟩:=len5 h;rfl)
   |(obtain⟨_,_,_,_,_,_,rfl⟩:=len6 h;rfl)):jS P w K mg base x (k+1) ps.length C cls [] []:=by
 obtain⟨f,fd,hm,F⟩:=F;exact aHg F (S nd) hm hb<|body f nd
end DL
set_option maxHeartbeats 400000
namespace K42
open PySem PySem.Spec PyProof.Rows L2 DL
noncomputable def top(i:Nat):BJ:=PySem.Challenge.pw_leastrow_k42_books_too_great.main.body.getD i<|.Pass ⟨0,0,0,0⟩
noncomputable abbrev aFG:BJ:=top 8
noncomputable abbrev aAU:BJ:=top 9
noncomputable abbrev aIL:BJ:=top 10
noncomputable abbrev aLP:BJ:=top 11
noncomputable abbrev aBz:BJ:=top 14
noncomputable abbrev aAg:BJ:=top 15
noncomputable abbrev zX:BJ:=top 16
noncomputable abbrev aAd:BJ:=top 18
noncomputable abbrev aCf:BJ:=top 17
noncomputable abbrev aKO:BJ:=top 21
noncomputable abbrev aBe:BJ:=top 22
noncomputable abbrev aGd:BJ:=top 23
noncomputable abbrev aLS:BJ:=top 24
noncomputable abbrev sFd:BJ:=top 25
noncomputable abbrev aBm:BJ:=top 26
noncomputable abbrev aGl:BJ:=top 27
noncomputable abbrev aCc:BJ:=top 29
noncomputable abbrev aFj:BJ:=top 30
noncomputable abbrev aAY:BJ:=top 31
noncomputable abbrev aFd:BJ:=top 32
noncomputable abbrev aLT:BJ:=top 33
noncomputable abbrev aBr:BJ:=top 34
noncomputable abbrev aLW:BJ:=top 35
noncomputable abbrev aKE:BJ:=top 36
noncomputable abbrev sGk:BJ:=top 37
noncomputable abbrev aLY:BJ:=top 38
noncomputable abbrev vA:BJ:=top 39
variable {P:AF}{w:AM}{K:aA}{mg:Str->Option BD}{base:BH}{f:BF}{fd:AX}
theorem aIT(q:SQ):pl (sqD q)=true:=by
 show pl (hV _ _ _ _)=true;unfold hV
 split
 ·rfl
 ·split<;>rfl
theorem aJL(q:SQ):dep (sqD q)=1:=by
 show dep (hV _ _ _ _)=1;unfold hV
 split
 ·rfl
 ·split<;>rfl
theorem aBP{α:Type}(g:α->D)(h:∀a,pl (g a)=true):∀l:List α,plL (l.map g)=true
 |[]=>rfl
 |a::l=>by show(pl (g a)&&plL (l.map g))=true;rw[h a,aBP g h l];rfl
theorem yV{α:Type}(g:α->D)(n:Nat)(h:∀a,dep (g a)<=n):∀l:List α,iY (l.map g)<=n
 |[]=>bJ _
 |a::l=>Nat.max_le.mpr ⟨h a,yV g n h l⟩
def yD:List D->R->Prop:=λds r=>∃p:Int×Int,ds=[cQ p]/\0<=p.1/\p.1<=60/\r=.val (.int<|2^p.1.toNat)
theorem aDF(F:FI K mg "word_count" aFG)(zrange:mg "range"=none):bU P w K mg base "word_count" 1 1 yD:=by
 refine dS (N:=["size","count","bit"]) (ps:=["size"]) (k:=0) F λf nd cdv A outer s H E hr ds r hl c=> ?_
 obtain⟨p,rfl,h0,h1,rfl⟩:=c;have ep:p.1=((p.1.toNat:Nat):Int):=by omega
 refine aI<|iF 1 nd rfl (Or.inl rfl) bW ?_;refine aI<|sI (ds:=fZ 0 p.1.toNat) (λk=>[.val<|cQ p,.val (.int<|2^k),.un]) (λk=>[.val<|cQ p,.val (.int<|2^k),.val (.int<|0+(k:Int))]) (gW (n:=p.1.toNat) rfl zrange (PEd.cast (pdx (n:=0) (d:=.int p.1)<|pdv 0)<|by rw[<-ep])<|by omega) ⟨.inr rfl,.inr rfl,.inr rfl,trivial⟩ (λi d hd=> ?_) (λi d hd=> ?_) ?_
 ·obtain⟨_,rfl⟩:=gQ hd;exact pgN 2
 ·refine bE<|iF 1 nd rfl (Or.inl rfl) (dP jP (pdv 1) bW (aGt (by decide)<|by decide)) ?_;exact⟨.inr rfl,.inr rfl,.inl rfl,trivial⟩
 ·refine bE<|dR (pdv 1) trivial ?_;rw[fQ]
def aIK:List D->R->Prop:=λds r=>∃ (L:List (List Int)) (m:Nat),ds=[.lst<|L.map bK,.int (m:Int)]/\L.length*m<=900/\m<=64/\(∀s∈L,s.length<=100)/\r=.own ((L.flatMap λs=>(bQ m).map λ(w:Nat)=>s++[(w:Int)]).map bK)
abbrev nl0:List Str:=["starts","count","longer","start"]
theorem aGF(F:FI K mg "with_each_word" aAU)(zrange:mg "range"=none):bU P w K mg base "with_each_word" 1 2 aIK:=by
 refine dS (N:=nl0) (ps:=["starts","count"]) (k:=0) F λf nd cdv A outer s H E hr ds r hl c=> ?_
 obtain⟨L,m,rfl,hL,hm64,hs,rfl⟩:=c;have nd2:(["word","start"]:List Str).Nodup:=by decide+kernel
 refine aI<|oX 2 nd rfl (Or.inl rfl) (mQ (ds:=[]) aW<|bJ _) λl=> ?_;refine aI<|sI (ds:=L.map bK) (λk=>[.val<|tL L,.val<|.int (m:Int),.own l<|((L.take k).flatMap λs=>(bQ m).map λ(w:Nat)=>s++[(w:Int)]).map bK,.un]) (λk=>[.val<|tL L,.val<|.int (m:Int),.own l<|((L.take k).flatMap λs=>(bQ m).map λ(w:Nat)=>s++[(w:Int)]).map bK,.val (bK<|L.getD k [])]) (iC<|pdv 0) ⟨.inr rfl,.inr rfl,.inr rfl,.inr rfl,trivial⟩ (λk d hd=> ?_) (λk d hd=> ?_) ?_
 ·obtain⟨_,rfl⟩:=oY hd;exact pgN 3
 ·obtain⟨hk,rfl⟩:=oY hd;have hmem:L.getD k []∈L:=getD_mem hk
  have et:L.take (k+1)=L.take k++[L.getD k []]:=by rw[eX];simp[cP,hk]
  have lk:(L.take k).length*m+m<=900:=by
   have h1:(L.take k).length+1<=L.length:=by rw[cO];omega
   have h2:=jT m h1;rw[aDn] at h2;omega
  have comp:∀ {pos:Pos},PEd (jL CX0 P w K mg base nl0 "with_each_word" (bF aAU) f cdv A outer s H E).nox [.val<|tL L,.val<|.int (m:Int),.own l<|((L.take k).flatMap λs=>(bQ m).map λ(w:Nat)=>s++[(w:Int)]).map bK,.val (bK<|L.getD k [])] (match(dY aAU).getD 1 (.Pass ⟨0,0,0,0⟩) with | .For _ _ [.Expr (.Call _ [c] _ _) _] _ _=>c|_=> .Constant .none 0 ⟨0,0,0,0⟩) (.own (((fZ 0 m).filter λ_=>true).map λd=>D.tup<|(L.getD k []).map D.int++[d])):=λ{pos}=>by
   refine pdC (N:=["word","start"]) (M:=nl0) (cap:=[none,some 3]) (sc:=bF aAU) (Tb:=λd=>[.val d,.val (bK<|L.getD k [])]) (λ_=>true) (λd=>D.tup<|(L.getD k []).map D.int++[d]) (gW (n:=m) rfl zrange (pdv 1)<|by omega) (by rw[fQ];omega) (λcl C fp s H d _=>.inl ⟨rfl,rfl⟩) λcl C fp s H d _ _=> ?_
   refine lX (pdv 1) (pdT (ds:=[d])<|aG (pdv 0) aW) ?_;have:=hs _ hmem;simp only[aB,bL,eZ];omega
  have ec:((fZ 0 m).filter λ_=>true).map (λd=>D.tup<|(L.getD k []).map D.int++[d])=((bQ m).map λ(w:Nat)=>L.getD k []++[(w:Int)]).map bK:=by
   rw[dH.mpr λ_ _=>rfl];unfold fZ;rw[bH,bH];refine cA λw _=> ?_
   simp[bK]
  refine bE<|uP 2 rfl (pv 2) (PEd.val<|comp (pos:=⟨0,0,0,0⟩)) ?_ ?_
  ·rw[aB,mP,ec,aB,aB,eY];omega
  ·refine⟨.inr rfl,.inr rfl,.inr ?_,.inl rfl,trivial⟩;rw[et,ec,aDt,aU];simp
 ·refine bE<|jV 2 rfl (pv 2) ?_;show R.own _=R.own _;rw[aB,fJ]
def aGo:List D->R->Prop:=λds r=>∃p,p∈cG/\ds=[cQ p]/\r=.own ((gJ (2^p.1.toNat) p.2.toNat).map bK)
theorem aGQ(F:FI K mg "fillings" aIL)(zrange:mg "range"=none)(GC:bU P w K mg base "word_count" 1 1 yD)(GE:bU P w K mg base "with_each_word" 1 2 aIK):bU P w K mg base "fillings" 2 1 aGo:=by
 refine dS (N:=["size","count","told","box"]) (ps:=["size"]) (k:=1) F λf nd cdv A outer s H E hr ds r hl c=> ?_
 obtain⟨p,hp,rfl,rfl⟩:=c;obtain⟨h1,h2,h3,h4,h5⟩:=uX p hp;have e2:p.2=((p.2.toNat:Nat):Int):=by omega
 have m64:2^p.1.toNat<=64:=by
  have:p.1.toNat<=6:=by omega
  exact cC (oJ (by decide) this)<|by decide
 have ec:(2:Int)^p.1.toNat=((2^p.1.toNat:Nat):Int):=by push_cast;rfl
 refine aI<|iF 1 nd rfl (Or.inl rfl) (pdc (ds:=[cQ p]) GC hr (aG (pdv 0) aW) ⟨p,rfl,by omega,by omega,rfl⟩) ?_;refine aI<|qR (ds:=[bK []]) 2 (pdL (ds:=[bK []])<|aG (aBc (ds:=[]) aW<|bJ _) aW) λl=> ?_;refine aI<|iE (ds:=fZ 0 p.2.toNat) (λk sd=>∃l,sd=[.val<|cQ p,.val (.int<|2^p.1.toNat),.own l<|(gJ (2^p.1.toNat) k).map bK,.un]) (gW (n:=p.2.toNat) rfl zrange (PEd.cast (pdx (n:=1) (d:=.int p.2)<|pdv 0)<|by rw[<-e2])<|by omega) ⟨_,Le.refl _,l,rfl⟩ (λk d sdk hd hk=> ?_) λsdn hn=> ?_
 ·obtain⟨hk2,rfl⟩:=gQ hd;obtain⟨l2,rfl⟩:=hk;refine⟨[.val<|cQ p,.val (.int<|2^p.1.toNat),.own l2<|(gJ (2^p.1.toNat) k).map bK,.val (.int<|0+(k:Int))],pgN 3, ?_⟩;refine iS 2 rfl ?_;refine bE (oX 2 nd rfl (Or.inl rfl) (pdc (ds:=[tL<|gJ (2^p.1.toNat) k,.int ((2^p.1.toNat:Nat):Int)]) GE hr (aG (pdv 2)<|aG (PEd.cast (pdv 1)<|by rw[ec]) aW) ⟨gJ (2^p.1.toNat) k,2^p.1.toNat,rfl, ?_,m64,λs hs=> ?_,rfl⟩) λl3=> ?_)
  ·rw[sJ];exact wF p hp k hk2
  ·rw[uH _ _ s hs];omega
  ·exact⟨[.val<|cQ p,.val (.int<|2^p.1.toNat),.own l3<|(gJ (2^p.1.toNat)<|k+1).map bK,.un],⟨.inr rfl,.inr rfl,.inr rfl,.inl rfl,trivial⟩,l3,rfl⟩
 ·rw[fQ] at hn;obtain⟨l2,rfl⟩:=hn;exact bE<|jV 2 rfl (pv 2) rfl
def aLI:List D->R->Prop:=λds r=>∃ (p:Int×Int) (ws:List Int),ds=[cQ p,bK ws]/\0<=p.1/\p.1<=60/\r=.val (.int<|rM (2^p.1.toNat) ws)
theorem aJT(F:FI K mg "number_of" aLP)(GC:bU P w K mg base "word_count" 1 1 yD):bU P w K mg base "number_of" 2 2 aLI:=by
 refine dS (N:=["size","filling","count","number","word"]) (ps:=["size","filling"]) (k:=1) F λf nd cdv A outer s H E hr ds r hl c=> ?_
 obtain⟨p,ws,rfl,h0,h1,rfl⟩:=c
 have b1: -(2^64)<(2:Int)^p.1.toNat/\(2:Int)^p.1.toNat<2^64:=by
  have h3:p.1.toNat<=60:=by omega
  have h4:2^p.1.toNat<=2^60:=oJ (by decide) h3;have h5:(2:Int)^p.1.toNat=((2^p.1.toNat:Nat):Int):=by push_cast;rfl
  rw[h5];have h6:(2:Nat)^60=1152921504606846976:=by decide
  rw[h6] at h4;generalize 2^p.1.toNat=q at h4 ⊢;omega
 refine aI<|iF 2 nd rfl (Or.inl rfl) (pdc (ds:=[cQ p]) GC hr (aG (pdv 0) aW) ⟨p,rfl,h0,h1,rfl⟩) ?_;refine aI<|iF 3 nd rfl (Or.inl rfl) bW ?_;refine aI<|sI (ds:=ws.map D.int) (λk=>[.val<|cQ p,.val<|bK ws,.val (.int<|2^p.1.toNat),.val<|.int (rM (2^p.1.toNat)<|ws.take k),.un]) (λk=>[.val<|cQ p,.val<|bK ws,.val (.int<|2^p.1.toNat),.val<|.int (rM (2^p.1.toNat)<|ws.take k),.val (.int<|ws.getD k 0)]) (sG<|pdv 1) ⟨.inr rfl,.inr rfl,.inr rfl,.inr rfl,.inr rfl,trivial⟩ (λk d hd=> ?_) (λk d hd=> ?_) ?_
 ·obtain⟨_,rfl⟩:=zO hd;exact pgN 4
 ·obtain⟨hk,rfl⟩:=zO hd
  have et:ws.take (k+1)=ws.take k++[ws.getD k 0]:=by rw[eX];simp[cP,hk]
  refine bE<|iF 3 nd rfl (Or.inl rfl) (fV iJ (dP jP (pdv 3) (pdv 2)<|aGt b1.1 b1.2)<|pdv 4) ?_;refine⟨.inr rfl,.inr rfl,.inr rfl,.inr ?_,.inl rfl,trivial⟩;rw[et];unfold rM;rw[gR];rfl
 ·refine bE<|dR (pdv 3) trivial ?_;show R.val _=R.val _;rw[aB,fJ]
def aCa:List D->R->Prop:=λds r=>∃ (k:Nat) (m a:Int),ds=[.str<|nm k,.int m,.int a]/\7<=k/\k<10/\0<m/\r=.val (.int<|aIx k m a)
theorem aCy(F:FI K mg "word_by_itself" aBz):bU P w K mg base "word_by_itself" 1 3 aCa:=by
 refine dS (N:=["name","count","word"]) (ps:=["name","count","word"]) (k:=0) F λf nd cdv A outer s H E hr ds r hl c=> ?_
 obtain⟨k,m,a,rfl,h7,h10,hm0,rfl⟩:=c;refine aI<|gK (k:=decide<|k=7) (cE (pdv 0) cU rfl rfl rfl<|yB k h10) (λh=> ?_) λh=>cM ?_
 ·have:k=7:=by simpa using h
  subst this;exact bE<|nQ (fV qP (fV qP (pdv 1) bW)<|pdv 2)
 have n7:¬ k=7:=by simpa using h
 refine aI<|gK (k:=decide<|k=8) (cE (pdv 0) cU rfl rfl rfl<|aDx k h10) (λh=> ?_) λh=>cM ?_
 ·have:k=8:=by simpa using h
  subst this;exact bE (nQ<|dP gE (dP jP (pdv 2) bW (aGt (by decide)<|by decide)) (pdv 1) hm0)
 have n8:¬ k=8:=by simpa using h
 have:k=9:=by omega
 subst this;exact bE (nQ<|dP aHI (pdv 2) bW ⟨by decide,by decide⟩)
def zE:List D->R->Prop:=λds r=>∃ (k:Nat) (m a c:Int),ds=[.str<|nm k,.int m,.int a,.int c]/\k<6/\0<m/\r=.val (.int<|xR k m a c)
theorem aAt(F:FI K mg "word_by_another" aAg):bU P w K mg base "word_by_another" 1 4 zE:=by
 refine dS (N:=["name","count","word","other"]) (ps:=["name","count","word","other"]) (k:=0) F λf nd cdv A outer s H E hr ds r hl c=> ?_
 obtain⟨k,m,a,c,rfl,h6,hm0,rfl⟩:=c;have h10:k<10:=by omega
 refine aI<|gK (k:=decide<|k=0) (cE (pdv 0) cU rfl rfl rfl<|aBb k h10) (λh=> ?_) λh=>cM ?_
 ·have:k=0:=by simpa using h
  subst this;exact bE<|nQ (fV aFD (pdv 2)<|pdv 3)
 have n0:¬ k=0:=by simpa using h
 refine aI<|gK (k:=decide<|k=1) (cE (pdv 0) cU rfl rfl rfl<|aGa k h10) (λh=> ?_) λh=>cM ?_
 ·have:k=1:=by simpa using h
  subst this;exact bE<|nQ (fV aIO (pdv 2)<|pdv 3)
 have n1:¬ k=1:=by simpa using h
 refine aI<|gK (k:=decide<|k=2) (cE (pdv 0) cU rfl rfl rfl<|aBg k h10) (λh=> ?_) λh=>cM ?_
 ·have:k=2:=by simpa using h
  subst this;exact bE<|nQ (fV aFB (pdv 2)<|pdv 3)
 have n2:¬ k=2:=by simpa using h
 refine aI<|gK (k:=decide<|k=3) (cE (pdv 0) cU rfl rfl rfl<|aBn k h10) (λh=> ?_) λh=>cM ?_
 ·have:k=3:=by simpa using h
  subst this;exact bE (nQ<|dP gE (fV iJ (pdv 2)<|pdv 3) (pdv 1) hm0)
 have n3:¬ k=3:=by simpa using h
 refine aI<|gK (k:=decide<|k=4) (cE (pdv 0) cU rfl rfl rfl<|xG k h10) (λh=> ?_) λh=>cM ?_
 ·have:k=4:=by simpa using h
  subst this;exact bE (nQ<|dP gE (fV qP (pdv 2)<|pdv 3) (pdv 1) hm0)
 have n4:¬ k=4:=by simpa using h
 have:k=5:=by omega
 subst this;exact bE (nQ<|pdv 3)
structure aKP(p:Int×Int)(k:Nat)(i j n:Int)(ws:List Int):Prop where
 sz:p∈cG
 k10:k<10
 i0:0<=i/\i<p.2
 j0:0<=j/\j<p.2
 n0:0<=n/\n<((2^p.1.toNat:Nat):Int)
 len:ws.length=p.2.toNat
 wd:∀w∈ws,0<=w/\w<((2^p.1.toNat:Nat):Int)
noncomputable def aIp(p:Int×Int)(k:Nat)(i j n:Int)(ws:List Int):Int:=newW k ((2^p.1.toNat:Nat):Int) (ws.getD i.toNat 0) (ws.getD j.toNat 0) n
def zZ:List D->R->Prop:=λds r=>∃p k i j n ws,aKP p k i j n ws/\ds=[cQ p,hV k i j n,bK ws]/\r=.val (.int<|aIp p k i j n ws)
theorem aJe(n:Nat):(0:Int)<((2^n:Nat):Int):=by have:0<2^n:=Nat.pow_pos (by decide);generalize 2^n=q at this ⊢;omega
theorem aFa{ws:List Int}{i:Int}{n:Nat}(h:ws.length=n)(h1:i<(n:Int))(h0:0<=i):(ws.map D.int)[i.toNat]? =some (.int<|ws.getD i.toNat 0):=by
 have:i.toNat<ws.length:=by omega
 simp[cP,this]
theorem aAy(F:FI K mg "new_word" zX)(byself:∃ad,mg "BY_ITSELF"=some (.ref ad)/\∀H:Hp,SqT K H ad [V.str "not",V.str "up",V.str "down"])(GC:bU P w K mg base "word_count" 1 1 yD)(GI:bU P w K mg base "word_by_itself" 1 3 aCa)(GA:bU P w K mg base "word_by_another" 1 4 zE):bU P w K mg base "new_word" 2 3 zZ:=by
 refine dS (N:=["size","step","filling","name","word"]) (ps:=["size","step","filling"]) (k:=1) F λf nd cdv A outer s H E hr ds r hl c=> ?_
 obtain⟨p,k,i,j,n,ws,O,rfl,rfl⟩:=c;obtain⟨h1,h2,h3,h4,h5⟩:=uX p O.sz;have hm0:=aJe p.1.toNat;have ec:(2:Int)^p.1.toNat=((2^p.1.toNat:Nat):Int):=by push_cast;rfl
 have e2:p.2=((p.2.toNat:Nat):Int):=by omega
 obtain⟨ad,hB,hq⟩:=byself;have ai:(ws.map D.int)[i.toNat]? =some (.int<|ws.getD i.toNat 0):=aFa O.len (by have:=O.i0.2;omega) O.i0.1;have aj:(ws.map D.int)[j.toNat]? =some (.int<|ws.getD j.toNat 0):=aFa O.len (by have:=O.j0.2;omega) O.j0.1
 by_cases k6:k<6
 ·have es:hV k i j n=.tup [.str<|nm k,.int i,.int j]:=by unfold hV;rw[if_pos k6]
  rw[es];refine aI<|iF 3 nd rfl (Or.inl rfl) (pdx (n:=0)<|pdv 1) ?_;refine aI (fB (cE (pdv 3) cU rfl rfl rfl<|qJ k O.k10) (by simp;omega)<|cM ?_);refine aI<|iF 4 nd rfl (Or.inl rfl) (lM (i:=i) (pdv 2) (pdx (n:=1)<|pdv 1) O.i0.1 ai λ_ _=>rfl) ?_;refine aI (fB (aCg rfl hB (λH=>hq H) (pdv 3) rfl rfl rfl) (by rw[aBB k O.k10];simp;omega)<|cM ?_);refine bE<|dR (pdc (ds:=[.str<|nm k,.int ((2^p.1.toNat:Nat):Int),.int<|ws.getD i.toNat 0,.int<|ws.getD j.toNat 0]) GA hr (aG (pdv 3)<|aG (PEd.cast (pdc (ds:=[cQ p]) GC hr (aG (pdv 0) aW) ⟨p,rfl,by omega,by omega,rfl⟩)<|by rw[ec]) (aG (pdv 4)<|aG (lM (i:=j) (pdv 2) (pdx (n:=2)<|pdv 1) O.j0.1 aj λ_ _=>rfl) aW)) ⟨k,_,_,_,rfl,k6,hm0,rfl⟩) trivial ?_;unfold aIp newW;rw[if_neg<|by omega,if_neg<|by omega]
 ·by_cases k6':k=6
  ·subst k6';have es:hV 6 i j n=.tup [.str<|nm 6,.int i,.int n]:=rfl;rw[es];refine aI<|iF 3 nd rfl (Or.inl rfl) (pdx (n:=0)<|pdv 1) ?_;refine aI<|gU (cE (pdv 3) cU rfl rfl rfl<|qJ 6 O.k10) rfl ?_;exact bE<|nQ (pdx (n:=2)<|pdv 1)
  ·have es:hV k i j n=.tup [.str<|nm k,.int i]:=by unfold hV;rw[if_neg k6,if_neg k6']
   rw[es];refine aI<|iF 3 nd rfl (Or.inl rfl) (pdx (n:=0)<|pdv 1) ?_;refine aI (fB (cE (pdv 3) cU rfl rfl rfl<|qJ k O.k10) (by simp;omega)<|cM ?_);refine aI<|iF 4 nd rfl (Or.inl rfl) (lM (i:=i) (pdv 2) (pdx (n:=1)<|pdv 1) O.i0.1 ai λ_ _=>rfl) ?_;refine aI<|gU (aCg rfl hB (λH=>hq H) (pdv 3) rfl rfl rfl) (by rw[aBB k O.k10];simp;omega) ?_;refine bE<|dR (pdc (ds:=[.str<|nm k,.int ((2^p.1.toNat:Nat):Int),.int<|ws.getD i.toNat 0]) GI hr (aG (pdv 3) (aG (PEd.cast (pdc (ds:=[cQ p]) GC hr (aG (pdv 0) aW) ⟨p,rfl,by omega,by omega,rfl⟩)<|by rw[ec])<|aG (pdv 4) aW)) ⟨k,_,_,rfl,by omega,O.k10,hm0,rfl⟩) trivial ?_;unfold aIp newW;rw[if_neg k6',if_pos<|by omega]
def aAh:List D->R->Prop:=λds r=>∃k i j n,ds=[hV k i j n]/\r=.val (.int i)
theorem aHr(k:Nat)(i j n:Int):∃es,hV k i j n=.tup (.str (nm k)::.int i::es):=by
 unfold hV
 split
 ·exact⟨_,rfl⟩
 ·split
  ·exact⟨_,rfl⟩
  ·exact⟨_,rfl⟩
theorem aAN(F:FI K mg "written_box" aAd):bU P w K mg base "written_box" 1 1 aAh:=by
 refine dS (N:=["step"]) (ps:=["step"]) (k:=0) F λf nd cdv A outer s H E hr ds r hl c=> ?_
 obtain⟨k,i,j,n,rfl,rfl⟩:=c;obtain⟨es,e⟩:=aHr k i j n;rw[e];exact bE<|nQ (pdx (n:=1)<|pdv 0)
noncomputable def aLL(p:Int×Int)(k:Nat)(i j n:Int)(ws:List Int):List Int:=ws.set i.toNat<|aIp p k i j n ws
def aBL:List D->R->Prop:=λds r=>∃p k i j n ws,aKP p k i j n ws/\ds=[cQ p,hV k i j n,bK ws]/\r=.val (bK<|aLL p k i j n ws)
theorem qK(ws:List Int){i:Nat}(h:i<ws.length):DL.cutD (ws.map D.int) none (some (i:Int))=(ws.take i).map D.int:=by
 unfold DL.cutD;have h1:HT.sIx (ws.map D.int).length 0 none=0:=rfl
 have h2:HT.sIx (ws.map D.int).length (ws.map D.int).length (some (i:Int))=i:=by rw[HT.sIx_nat,aB];omega
 rw[h1,h2,qB];simp
theorem pE(ws:List Int){i:Nat}(h:i<ws.length):DL.cutD (ws.map D.int) (some<|(i:Int)+1) none=(ws.drop<|i+1).map D.int:=by
 unfold DL.cutD;have e:((i:Int)+1)=((i+1:Nat):Int):=by push_cast;rfl
 have h1:HT.sIx (ws.map D.int).length 0 (some<|(i:Int)+1)=i+1:=by rw[e,HT.sIx_nat,aB];omega
 have h2:HT.sIx (ws.map D.int).length (ws.map D.int).length none=ws.length:=by rw[HT.sIx_none,aB]
 rw[h1,h2,qC,mI<|by rw[jI,aB];omega]
theorem aDg(F:FI K mg "step_on" aCf)(GB:bU P w K mg base "written_box" 1 1 aAh)(GN:bU P w K mg base "new_word" 2 3 zZ):bU P w K mg base "step_on" 3 3 aBL:=by
 refine dS (N:=["size","step","filling","box"]) (ps:=["size","step","filling"]) (k:=2) F λf nd cdv A outer s H E hr ds r hl c=> ?_
 obtain⟨p,k,i,j,n,ws,O,rfl,rfl⟩:=c;obtain⟨h1,h2,h3,h4,h5⟩:=uX p O.sz;have li:i.toNat<ws.length:=by have:=O.i0;rw[O.len];omega
 have ei:i=((i.toNat:Nat):Int):=by have:=O.i0;omega
 have l6:ws.length<=6:=by rw[O.len];omega
 refine aI<|jE (d:=.int ((i.toNat:Nat):Int)) 3 (PEd.cast (pdc (ds:=[hV k i j n]) GB hr (aG (pdv 1) aW) ⟨k,i,j,n,rfl,rfl⟩)<|by rw[<-ei]) ?_;refine bE<|dR (PEd.cast (lX (lX (yE (ol:=none) (oh:=some ((i.toNat:Nat):Int)) (pdv 2) trivial (pdv 3) ?_) (pdT (ds:=[.int<|aIp p k i j n ws])<|aG (pdc (ds:=[cQ p,hV k i j n,bK ws]) GN hr (aG (pdv 0) (aG (pdv 1)<|aG (pdv 2) aW)) ⟨p,k,i,j,n,ws,O,rfl,rfl⟩) aW) ?_) (yE (ol:=some<|((i.toNat:Nat):Int)+1) (oh:=none) (pdv 2) (fV iJ (pdv 3) bW) trivial ?_) ?_) ?_) trivial rfl
 ·rw[HT.sIx_nat,aB];omega
 ·rw[qK ws li];simp only[aB,cO,bL,eZ];omega
 ·have e:(((i.toNat:Nat):Int)+1)=((i.toNat+1:Nat):Int):=by push_cast;rfl
  rw[e,HT.sIx_nat,aB];omega
 ·rw[qK ws li,pE ws li];simp only[aM,aB,cO,jI,bL,eZ];omega
 ·rw[qK ws li,pE ws li];unfold bK aLL;rw[qX,if_pos li];simp
theorem aJX{p:Int×Int}{q:SQ}{ws:List Int}(O:oW p q)(G:Fil p ws):aKP p q.1 q.2.1 q.2.2.1 q.2.2.2 ws:=⟨O.sz,O.k10,O.i0,O.j0,O.n0,G.len,G.wd⟩
theorem aDO(F:FI K mg "numbers_of_step" aKO)(ztuple:mg "tuple"=none)(GN:bU P w K mg base "number_of" 2 2 aLI)(GS:bU P w K mg base "step_on" 3 3 aBL)(GF:bU P w K mg base "fillings" 2 1 aGo):bU P w K mg base "numbers_of_step" 4 2 aLV:=by
 have nd2:(["filling","size","step"]:List Str).Nodup:=by decide+kernel
 refine dS (N:=["size","step"]) (ps:=["size","step"]) (k:=3) F λf nd cdv A outer s H E hr ds r hl c=> ?_
 obtain⟨p,q,hp,O,rfl,rfl⟩:=c;have f9:(cX p).length<=64:=lU hp;obtain⟨h1,h2,h3,h4,h5⟩:=uX p hp
 have ec:(((cX p).map bK).filter λ_=>true).map (λd=>D.int ((qM p (onQ p q<|oE d):Nat):Int))=cN (iO p q):=by
  rw[dH.mpr λ_ _=>rfl];unfold cN iO;rw[bH,bH];refine cA λg _=> ?_
  show D.int ((qM p (onQ p q (oE<|bK g)):Nat):Int)=_;rw[lV];rfl
 refine bE (nQ<|kT rfl ztuple (PEd.bor<|PEd.val (PEd.cast (kE (ds:=(cX p).map bK) (N:=["filling","size","step"]) (M:=["size","step"]) (cap:=[none,some 0,some 1]) (sc:=bF aKO) (Tb:=λd=>[.val d,.val<|cQ p,.val<|sqD q]) (λ_=>true) (λd=>D.int ((qM p (onQ p q<|oE d):Nat):Int)) (iC (PEd.val<|pdc (ds:=[cQ p]) GF hr (aG (pdv 0) aW) ⟨p,hp,rfl,rfl⟩)) (by rw[aB];omega) rfl (by decide+kernel) rfl (by decide+kernel) rfl (λcl C fp s H d hd=>pgN 0) (λd hd=>⟨.inl rfl,.inr rfl,.inr rfl,trivial⟩) (λcl C fp s H d hd=>.inl ⟨rfl,rfl⟩) λcl C2 fp s H d hd _=> ?_)<|by rw[ec])));obtain⟨g,hg,rfl⟩:=yX hd;rw[lV];have G:=yM hp hg;have e:=(aBj hp<|wO O G).1;exact pdc (ds:=[cQ p,bK<|onQ p q g]) GN hr (aG (pdv 1)<|aG (pdc (ds:=[cQ p,sqD q,bK g]) GS hr (aG (pdv 1) (aG (pdv 2)<|aG (pdv 0) aW)) ⟨p,_,_,_,_,g,aJX O G,rfl,rfl⟩) aW) ⟨p,_,rfl,by omega,by omega,by rw[e]⟩
theorem aAH(F:FI K mg "moves_of" aBe)(GN:bU P w K mg base "numbers_of_step" 4 2 aLV):bU P w K mg base "moves_of" 5 2 aFl:=by
 have nd2:(["step","price","size"]:List Str).Nodup:=by decide+kernel
 refine dS (N:=["size","stock"]) (ps:=["size","stock"]) (k:=4) F λf nd cdv A outer s H E hr ds r hl c=> ?_
 obtain⟨p,L,hp,S,dn,rfl,rfl⟩:=c;have l8:=S.le
 have ec:((L.map skD).filter λ_=>true).map (λd=>mvD p<|tF L d)=L.map (mvD p):=by
  rw[dH.mpr λ_ _=>rfl,bH];refine cA λs hs=> ?_
  show mvD p (tF L<|skD s)=_;rw[uO dn hs]
 refine bE<|dR (PEd.cast (kE (ds:=L.map skD) (N:=["step","price","size"]) (M:=["size","stock"]) (cap:=[none,none,some 0]) (sc:=bF aBe) (Tb:=λd=>[.val<|sqD (tF L d).1,.val<|.int (tF L d).2,.val<|cQ p]) (λ_=>true) (λd=>mvD p<|tF L d) (iC<|pdv 1) (by rw[aB];omega) rfl (by decide+kernel) rfl (by decide+kernel) rfl (λcl C fp s H d hd=> ?_) (λd hd=>⟨.inl rfl,.inl rfl,.inr rfl,trivial⟩) (λcl C fp s H d hd=>.inl ⟨rfl,rfl⟩) λcl C2 fp s H d hd _=> ?_)<|by rw[ec]) trivial rfl
 ·obtain⟨z,hz,rfl⟩:=aX.mp hd;rw[uO dn hz];exact nH (ds:=[sqD z.1,.int z.2]) (js:=[0,1]) rfl (fW (pgn 0)<|fW (pgn 1) nF) rfl rfl
 ·obtain⟨z,hz,rfl⟩:=aX.mp hd;rw[uO dn hz];exact pdT (ds:=[.int z.2,tN<|iO p z.1]) (aG (pdv 1)<|aG (pdc (ds:=[cQ p,sqD z.1]) GN hr (aG (pdv 2)<|aG (pdv 0) aW) ⟨p,z.1,hp,(S.st z hz).1,rfl,rfl⟩) aW)
theorem aCu(F:FI K mg "numbers_behind" aGd)(ztuple:mg "tuple"=none):bU P w K mg base "numbers_behind" 1 2 aIv:=by
 have nd2:(["number","other"]:List Str).Nodup:=by decide+kernel
 refine dS (N:=["one","other"]) (ps:=["one","other"]) (k:=0) F λf nd cdv A outer s H E hr ds r hl c=> ?_
 obtain⟨one,other,h1,h2,rfl,rfl⟩:=c
 have ec:((cN one).filter λ_=>true).map (λd=>match d with | .int i=>D.int ((other.getD i.toNat 0:Nat):Int)|_=>.non)=cN (iB other one):=by rw[dH.mpr λ_ _=>rfl];unfold cN iB;rw[bH,bH];rfl
 refine bE (nQ<|kT rfl ztuple (PEd.bor<|PEd.val (PEd.cast (kE (ds:=cN one) (N:=["number","other"]) (M:=["one","other"]) (cap:=[none,some 1]) (sc:=bF aGd) (Tb:=λd=>[.val d,.val (.tup<|cN other)]) (λ_=>true) (λd=>match d with | .int i=>D.int ((other.getD i.toNat 0:Nat):Int)|_=>.non) (sG<|pdv 0) (by rw[aAj];omega) rfl (by decide+kernel) rfl (by decide+kernel) rfl (λcl C fp s H d hd=>pgN 0) (λd hd=>⟨.inl rfl,.inr rfl,trivial⟩) (λcl C fp s H d hd=>.inl ⟨rfl,rfl⟩) λcl C2 fp s H d hd _=> ?_)<|by rw[ec])));obtain⟨i,hi,rfl⟩:=aX.mp hd;exact aBo (n:=i) (pdv 1) (pdv 0) (aJi<|h2 i hi) λ_ _=>rfl
abbrev nl1:List Str:=["waiting","moves","bound","rank","row","numbers","place","move","price","longer"]
theorem aEr(F:FI K mg "put_longer_rows" aLS)(zenumerate:mg "enumerate"=none)(GB:bU P w K mg base "numbers_behind" 1 2 aIv):pD P w K (wtL P w K) mg base "put_longer_rows" 2 6 aKZ:=by
 obtain⟨f,fd,hm,F⟩:=F;have nd:nl1.Nodup:=by decide+kernel
 refine aHu (Z:=wtL P w K) (N:=nl1) (ps:=["waiting","moves","bound","rank","row","numbers"]) (k:=1) F ⟨rfl,rfl,rfl,nd,rfl,by decide+kernel,by decide+kernel⟩ hm (λ_ _ _ _ _ _ us hl=>match us,hl with | [_,_,_,_,_,_],_=>rfl) (λcdv A outer s H E B hB hr a ds post hl c=> ?_)<|aDM P w K;obtain⟨p,L,b,r,row,nb,hp,L9,hnb,r9,ndT,hT,rfl,rfl⟩:=c;have hu:=uN hr 4;have f9:(cX p).length<=64:=lU hp;refine bE<|iE (ds:=tW (L.map<|mvD p)) (λt sd=>∃a':Wt,a'.l=a.l/\a'.T=lgQ p L b r row nb t a.T/\sd=[wtS P w K a',.val<|.lst (L.map<|mvD p),.val<|.int b,.val<|.tup [.int r.1,.int r.2],.val (.tup<|cN row),.val (.tup<|cN nb),.un,.un,.un,.un]) (aED rfl zenumerate<|pdv 1) ⟨_,Le.refl _,a,rfl,rfl,rfl⟩ (λt d sdt hd ht=> ?_) λsdn hn=> ?_
 ·obtain⟨x,hx,rfl⟩:=vJ hd;obtain⟨a',el,eT,rfl⟩:=ht
  have tl:t<L.length:=by have:=(aF.mp hx).1;simpa using this
  have ex:x=mvD p (L.getD t AR):=by rw[bB,dW tl] at hx;rw[<-bY.inj hx];simp[cP,tl]
  subst ex;have es:lgQ p L b r row nb (t+1) a.T=if r.1+(L.getD t AR).2<=b then iW (lgQ p L b r row nb t a.T) (r.1+(L.getD t AR).2,r.2+1) (nP (row++[t],iB (iO p (L.getD t AR).1) nb)) else lgQ p L b r row nb t a.T:=rfl
  have ndt:=aDz (p:=p) (L:=L) (b:=b) (r:=r) (row:=row) (nb:=nb) ndT t;have tt:=aFr (p:=p) (L:=L) (b:=b) (r:=r) (row:=row) (nb:=nb) (T:=a.T) t;rw[<-eT] at es ndt tt;obtain⟨pl0,pl1⟩:=hnb;generalize L.getD t AR=m at es;refine⟨[wtS P w K a',.val<|.lst (L.map<|mvD p),.val<|.int b,.val<|.tup [.int r.1,.int r.2],.val (.tup<|cN row),.val (.tup<|cN nb),.val<|.int (t:Int),.val<|mvD p m,.un,.un],nH (js:=[6,7]) rfl (fW (pgn 6)<|fW (pgn 7) nF) rfl rfl, ?_⟩;refine aI<|jE (d:=.int<|r.1+m.2) 8 (fV iJ (pdx (n:=0) (d:=.int r.1)<|pdv 3) (pdx (n:=0) (d:=.int m.2)<|pdv 7)) ?_;refine bE<|gK (k:=decide<|r.1+m.2<=b) (mM aGr (pdv 8) (pdv 2)<|jK _) (λq=> ?_) λq=>cM ?_
  ·rw[if_pos<|of_decide_eq_true q] at es;have e1:cN row++[.int (t:Int)]=cN (row++[t]):=by unfold cN;rw[aU];rfl
   refine aI<|jE (d:=p2D<|nP (row++[t],iB (iO p m.1) nb)) 9 (PEd.cast (pdT (ds:=[.tup (cN<|row++[t]),.tup (cN<|iB (iO p m.1) nb)]) (aG (PEd.cast (lX (d1:=cN row) (d2:=[.int (t:Int)]) (pdv 4) (pdT (ds:=[.int (t:Int)])<|aG (pdv 6) aW)<|by unfold cN;rw[aB];show _+1<=10000;omega)<|by rw[e1])<|aG (pdc (ds:=[.tup<|cN nb,.tup (cN<|iO p m.1)]) (r:=.val<|.tup (cN<|iB (iO p m.1) nb)) GB hr (aG (pdv 5)<|aG (pdx (n:=1) (d:=.tup (cN<|iO p m.1))<|pdv 7) aW) ⟨nb,iO p m.1,by omega,λi hi=>by rw[aHA];exact pl1 i hi,rfl,rfl⟩) aW))<|by rw[aKN]) ?_;generalize nP (row++[t],iB (iO p m.1) nb)=y at es;refine bE<|aCE (k:=rkK (r.1+m.2,r.2+1)) (ks:=wtK a'.T) (ls:=a'.ls) (dss:=wtD a'.T) (d:=p2D y) 0 (by show(A.deeper _).units+1<AQ;omega) rfl (pv 0) (PEd.cast (pdT (ds:=[.int<|r.1+m.2,.int<|r.2+1]) (aG (pdv 8)<|aG (fV iJ (pdx (n:=1) (d:=.int r.2)<|pdv 3) bW) aW)) rfl) (λz=>mR 9 rfl<|pv 9) (by have:=aHa a'.T;unfold wtD;rw[aB];omega) (λds hd=>by have:=aGP ds hd;omega) (λn ds hk hd=> ?_) λhk a9=> ?_
   ·obtain⟨k1,k2⟩:=tQ y ndt hk hd;refine⟨[wtS P w K ⟨a'.l,a'.ls,iW a'.T (r.1+m.2,r.2+1) y⟩,.val<|.lst (L.map<|mvD p),.val<|.int b,.val<|.tup [.int r.1,.int r.2],.val (.tup<|cN row),.val (.tup<|cN nb),.un,.un,.un,.un],⟨.inr ?_,.inr rfl,.inr rfl,.inr rfl,.inr rfl,.inr rfl,.inl rfl,.inl rfl,.inl rfl,.inl rfl,trivial⟩,⟨a'.l,a'.ls,iW a'.T (r.1+m.2,r.2+1) y⟩,el,es.symm,rfl⟩;unfold wtS;rw[k1,k2];rfl
   ·have k1:=tR y hk;refine⟨[wtS P w K ⟨a'.l,a'.ls++[a9],iW a'.T (r.1+m.2,r.2+1) y⟩,.val<|.lst (L.map<|mvD p),.val<|.int b,.val<|.tup [.int r.1,.int r.2],.val (.tup<|cN row),.val (.tup<|cN nb),.un,.un,.un,.un],⟨.inr ?_,.inr rfl,.inr rfl,.inr rfl,.inr rfl,.inr rfl,.inl rfl,.inl rfl,.inl rfl,.inl rfl,trivial⟩,⟨a'.l,a'.ls++[a9],iW a'.T (r.1+m.2,r.2+1) y⟩,el,es.symm,rfl⟩;unfold wtS;rw[k1];unfold wtK wtD;rw[aU,aU];rfl
  ·rw[if_neg<|of_decide_eq_false q] at es;exact⟨[wtS P w K a',.val<|.lst (L.map<|mvD p),.val<|.int b,.val<|.tup [.int r.1,.int r.2],.val (.tup<|cN row),.val (.tup<|cN nb),.un,.un,.un,.un],⟨.inr rfl,.inr rfl,.inr rfl,.inr rfl,.inr rfl,.inr rfl,.inl rfl,.inl rfl,.inl rfl,.inr rfl,trivial⟩,a',el,es.symm,rfl⟩
 ·obtain⟨a',el,eT,rfl⟩:=hn;refine⟨a',⟨el, ?_⟩,rfl⟩;rw[eT,qG,aB]
abbrev nl2:List Str:=["moves","bound","start","waiting","known","found","rank","ready","row","numbers"]
theorem aEW{CN:BF}(zlen:mg "len"=none)(zmin:mg "min"=none)(zlist:mg "list"=none)(zsorted:mg "sorted"=none)(hmt:∃t,mg "MOST_TABLES"=some (.int 500 t))(xk:aKD K mg CN)(GP:pD P w K (wtL P w K) mg base "put_longer_rows" 2 6 aKZ){cdv:BD}{A:BG}{outer:List Env}{s:BE}{H:Hp}{E:XK}(hr:Room 2 (A.deeper<|As "found_rows" (bF sFd) s.heap.objs.size f cdv)){ξ:BD->BE->Prop}(hξ:PassesOwn (AH P w) (A.deeper<|As "found_rows" (bF sFd) s.heap.objs.size f cdv) (As "found_rows" (bF sFd) s.heap.objs.size f cdv) ξ){p:Int×Int}{L:List SK}{b:Int}(hp:p∈cG)(S0:StkOk p L)(b3:b<=300)(tk:500<(bkF p L b).length->∀sd,tU ((jL CX0 P w K mg base nl2 "found_rows" (bF sFd) f cdv A outer s H E).wish ξ) (.ref CN) sd){Ed:gY}(hEd:(bkF p L b).length<=500->Ed.rt (.own<|(bkF p L b).map fdD)):PSd ((jL CX0 P w K mg base nl2 "found_rows" (bF sFd) f cdv A outer s H E).wish ξ) (init 10 [.lst (L.map<|mvD p),.int b,.tup (cN<|st0 p)]) (dY sFd) Ed:=by
 obtain⟨tm,hmt⟩:=hmt;have nd:nl2.Nodup:=by decide+kernel
 have hu8:=uN hr 8;have hu4:=uN hr 4;have hu2:=uN hr 2;have hu1:=uN hr 1;have hpr:=S0.pr;have l8:=S0.le;have m8:∀ {n:Nat},n<=500->n*L.length<=4000:=λh=>cC (Nat.mul_le_mul h l8)<|by decide
 refine aI<|aCq 3 nd rfl (Or.inl rfl) λl3=> ?_;refine aGu (K:=∀ls T,(fd0 p b).T=T->PSd _ [.val<|.lst (L.map<|mvD p),.val<|.int b,.val<|.tup (cN<|st0 p),wtS P w K ⟨l3,ls,T⟩,.un,.un,.un,.un,.un,.un] _ _) (λkey=>aI (gK (k:=decide<|0<=b) (mM aLl (pdv 1) bW<|jK _) (λq=> ?_) λq=>cM<|key [] [] (if_neg<|of_decide_eq_false q))) λls T e0=> ?_
 ·refine bE<|aEt (ds:=[p2D<|nP ([],st0 p)]) 3 hu1 rfl (pv 3) (pdL (ds:=[p2D<|nP ([],st0 p)])<|aG (PEd.cast (pdT (ds:=[.tup<|cN [],.tup (cN<|st0 p)]) (aG (pdT (ds:=[]) aW)<|aG (pdv 2) aW))<|by rw[aKN]) aW) (λz=>nomatch z) (eI rfl) λa=> ?_;exact key [a] [((0,0),[nP ([],st0 p)])] (if_pos<|of_decide_eq_true q)
 subst e0;refine aI<|uJ (hkT P w) 4 nd rfl (Or.inl rfl) λl4=> ?_;refine aI<|qR (ds:=[]) 5 (pdL (ds:=[]) aW) λl5=> ?_;refine aI<|aCQ (λm sd=>∃S dn r ls,Wk p L b dn r [] S/\4001<dn.length+m/\iA p L b m S=iA p L b 4002 (fd0 p b)/\S.fd.length<=500/\sd=[.val<|.lst (L.map<|mvD p),.val<|.int b,.val<|.tup (cN<|st0 p),wtS P w K ⟨l3,ls,S.T⟩,oG (hkT P w) K l4 (S.kn.map kM)<|S.kn.map λ_=>.bl true,.own l5<|S.fd.map fdD,.un,.un,.un,.un]) ⟨4002,_,Le.refl _,fd0 p b,[],(0,0),ls,wk0 p L b,by simp,rfl,bJ _,rfl⟩ (λm sdm hw=> ?_) (hp:=hξ);obtain⟨S,dn,r,ls,W,hU,hR,s5,rfl⟩:=hw;refine⟨decide<|(0:Int)<((wtK S.T).length:Int),mM aIy (aHo 3 rfl zlen rfl<|pv 3) bW<|jK _,λq=> ?_,λq=> ?_⟩
 ·have e:S.T=[]:=by have:=of_decide_eq_false q;unfold wtK at this;rw[aB] at this;exact cD (by omega)
  have e2:iA p L b m S=S:=by
   cases m with
   |zero=>rfl
   |succ m=>exact if_pos e
  have e3:bkF p L b=S.fd:=by unfold bkF;rw[<-hR,e2]
  refine bE<|jV 5 rfl (pv 5) ?_;rw[<-e3];exact hEd (by rw[e3];exact s5)
 ·have hne:S.T≠[]:=λz=>by rw[z] at q;cases q
  obtain⟨t,ht,hm,tnd,tne,W1,eT,W2⟩:=W.turn hpr hne;obtain⟨M,t',g1,g2,g3,g4,_⟩:=aJG (X:=((jL CX0 P w K mg base nl2 "found_rows" (bF sFd) f cdv A outer s H E).wish ξ)) hu4 hne;have et:t=t':=(bY.inj<|g1.symm.trans ht).symm;subst et
  have tl:t.2.length<=10000:=by have h1:=(gI t.2).length_eq;have h2:_<=1+S.fd.length*L.length:=W1.few2;have:=m8 s5;omega
  refine aI<|jE (d:=rkD t.1) 6 (aHE rfl zmin (PEd.bor<|PEd.val (aDW 3 rfl zlist rfl<|pv 3)) M g2) ?_;refine aI<|aEs (ps:=t.2) (rk:=rkP t.2) (k:=rkK t.1) 3 7 (eC S.T) hu1 rfl zsorted rfl (pv 3) (PEd.cast (pdv 6) rfl) g3 g4 (aJg tnd tl hu8) nd rfl (Or.inl rfl) λl7 qs qp qw=>iS 7 rfl ?_;have eq:=aHp tnd qp qw;subst eq;have ek:wtK (S.T.eraseIdx<|eC S.T)=(wtK S.T).eraseIdx (eC S.T):=by unfold wtK;rw[cR,cR,aU,qB,qC]
  have ed:wtD (S.T.eraseIdx<|eC S.T)=(wtD S.T).eraseIdx (eC S.T):=by unfold wtD;rw[cR,cR,aU,qB,qC]
  have e5:odG P w K l3 ((wtK S.T).eraseIdx<|eC S.T) (ls.eraseIdx<|eC S.T) ((wtD S.T).eraseIdx<|eC S.T)=wtS P w K ⟨l3,ls.eraseIdx<|eC S.T,S.T.eraseIdx<|eC S.T⟩:=by unfold wtS;rw[ek,ed]
  refine aJr (sd':=[.val<|.lst (L.map<|mvD p),.val<|.int b,.val<|.tup (cN<|st0 p),wtS P w K ⟨l3,ls.eraseIdx<|eC S.T,({S with T:=S.T.eraseIdx (eC S.T)}:FdS).T⟩,oG (hkT P w) K l4 (({S with T:=S.T.eraseIdx (eC S.T)}:FdS).kn.map kM)<|({S with T:=S.T.eraseIdx (eC S.T)}:FdS).kn.map λ_=>.bl true,.own l5<|({S with T:=S.T.eraseIdx (eC S.T)}:FdS).fd.map fdD,.val<|rkD t.1,.val (.lst<|(fX t.2).map p2D),.un,.un]) ⟨.inr rfl,.inr rfl,.inr rfl,.inr e5,.inr rfl,.inr rfl,.inr rfl,.inr rfl,.inr rfl,.inr rfl,trivial⟩ ?_
  have hR2:∃m',m=m'+1/\iA p L b m' (fdT p L b S)=iA p L b 4002 (fd0 p b):=by
   cases m with
   |zero=>have:=W.few2;have:=m8 s5;omega
   |succ m'=>have e6:iA p L b (m'+1) S=iA p L b m' (fdT p L b S):=if_neg hne;exact⟨m',rfl,by rw[<-e6];exact hR⟩
  obtain⟨m',rfl,hR2⟩:=hR2
  have tpos:0<(fX t.2).length:=by rw[(gI t.2).length_eq];exact iG.mpr tne
  have s51:({S with T:=S.T.eraseIdx (eC S.T)}:FdS).fd.length<=500:=s5;rw[eT] at hR2 W2;clear hR e5 ek ed g1 g2 g3 g4 M qp qw eT;generalize ({S with T:=S.T.eraseIdx (eC S.T)}:FdS)=S1 at W1 W2 hR2 s51
  have pre:∀j,(fdP p L b t.1 S1<|(fX t.2).take j).fd.length<=(bkF p L b).length:=λj=>by
   have e1:fdP p L b t.1 (fdP p L b t.1 S1<|(fX t.2).take j) ((fX t.2).drop j)=fdP p L b t.1 S1 (fX t.2):=by
    conv=>rhs;rw[<-gP j (fX t.2)]
    unfold fdP;rw[gR]
   have h1:=(wX (p:=p) (L:=L) b t.1 ((fX t.2).drop j) (fdP p L b t.1 S1<|(fX t.2).take j)).length_le;have h2:=(aBx (p:=p) (L:=L) (b:=b) m' (fdP p L b t.1 S1<|fX t.2)).length_le;rw[e1] at h1;rw[hR2] at h2;exact cC h1 h2
  generalize ls.eraseIdx (eC S.T)=ls1;refine bE<|iE (ds:=(fX t.2).map p2D) (λj sd=>∃S' ls,S'=fdP p L b t.1 S1 ((fX t.2).take j)/\S'.fd.length<=500/\sd=[.val<|.lst (L.map<|mvD p),.val<|.int b,.val<|.tup (cN<|st0 p),wtS P w K ⟨l3,ls,S'.T⟩,oG (hkT P w) K l4 (S'.kn.map kM)<|S'.kn.map λ_=>.bl true,.own l5<|S'.fd.map fdD,.val<|rkD t.1,.val (.lst<|(fX t.2).map p2D),.un,.un]) (iC<|pdv 7) ⟨_,Le.refl _,S1,ls1,rfl,s51,rfl⟩ (λj d sdj hd hj=> ?_) (λsdn hn=> ?_) (hp:=hξ)
  ·obtain⟨S',ls2,eS,f1,rfl⟩:=hj;have pj:=pre<|j+1;obtain⟨y,hy,rfl,ey⟩:=pV hd;have jl:j<(fX t.2).length:=(aF.mp hy).1;have Wj:=W1.take hpr j (by omega);have Wj1:=W1.take hpr (j+1) (by omega);rw[ey,uL,<-eS] at Wj1;rw[<-eS] at Wj;have eS1:fdP p L b t.1 S1 ((fX t.2).take<|j+1)=fdI p L b t.1 S' (unP y):=by rw[ey,uL,<-eS]
   obtain⟨row,rfl,ro,er,rb⟩:=W1.rs y<|aN hy;rw[eS1] at pj ⊢;rw[aIC] at Wj1 pj ⊢
   have rU:row.length<=300:=by
    have:=aAX (pr:=prK L) row λk hk=>hpr k<|ro k hk
    have rb:S45.prQ (prK L) row<=b:=by rw[er] at rb;exact rb
    omega
   have nbo:=(aAS hp (λs hs=>(S0.st s hs).1) ro).1;have tt:=Wj.tot2;have:=m8 f1;have okj:=Wj.ok
   have kl:S'.kn.length<=500:=by rw[okj.kn,aB];exact f1
   have dy:p2D (itP p L row)=.tup [.tup<|cN row,.tup (cN<|nrQ p L row)]:=aKN _;rw[dy];clear Wj Wj1 eS1 ey hy hd eS dy;refine⟨[.val<|.lst (L.map<|mvD p),.val<|.int b,.val<|.tup (cN<|st0 p),wtS P w K ⟨l3,ls2,S'.T⟩,oG (hkT P w) K l4 (S'.kn.map kM)<|S'.kn.map λ_=>.bl true,.own l5<|S'.fd.map fdD,.val<|rkD t.1,.val (.lst<|(fX t.2).map p2D),.val (.tup<|cN row),.val<|.tup (cN<|nrQ p L row)],nH (ds:=[.tup<|cN row,.tup (cN<|nrQ p L row)]) (js:=[8,9]) rfl (fW (pgn 8)<|fW (pgn 9) nF) rfl rfl, ?_⟩
   have inj:decide (nrQ p L row∈S'.kn)=true↔kM (nrQ p L row)∈S'.kn.map kM:=by
    rw[decide_eq_true_iff]
    constructor
    ·exact λh=>aX.mpr ⟨_,h,rfl⟩
    ·intro h;obtain⟨e,e1,e2⟩:=aX.mp h;rw[<-aAf e2];exact e1
   refine aGu (K:=∀S2 ls3,S2=fdI p L b t.1 S' (row,nrQ p L row)->PSd _ [.val<|.lst (L.map<|mvD p),.val<|.int b,.val<|.tup (cN<|st0 p),wtS P w K ⟨l3,ls3,S2.T⟩,oG (hkT P w) K l4 (S2.kn.map kM)<|S2.kn.map λ_=>.bl true,.own l5<|S2.fd.map fdD,.val<|rkD t.1,.val (.lst<|(fX t.2).map p2D),.val (.tup<|cN row),.val<|.tup (cN<|nrQ p L row)] _ _) (λkey=>aI (gK (k:= !decide (nrQ p L row∈S'.kn)) (aAk (hk:=hkT P w) (k:=kM<|nrQ p L row) inj hu2 (PEd.cast (pdv 9)<|by rw[show(hkT P w).dat (kM<|nrQ p L row)=tD (kM<|nrQ p L row) from rfl,aEU]) (yK 4 rfl<|pv 4)) (λq=> ?_) λq=>cM<|key S' ls2 (if_pos<|by simpa using q).symm)) λS2 ls3 e2=> ?_
   ·have nk:nrQ p L row∉S'.kn:=by simpa using q
    refine aI<|tH (hk:=hkT P w) (k:=kM<|nrQ p L row) (d:=.bl true) 4 hu2 rfl (pv 4) aGe (PEd.cast (pdv 9)<|by rw[show(hkT P w).dat (kM<|nrQ p L row)=tD (kM<|nrQ p L row) from rfl,aEU]) (λz=>nk (of_decide_eq_true<|inj.mpr z)) (by rw[aB];omega) ?_;refine aI<|lR (d:=fdD (t.1.1,row,nrQ p L row)) 5 rfl (pv 5) (pdT (ds:=[.int t.1.1,.tup<|cN row,.tup (cN<|nrQ p L row)])<|aG (pdx (n:=0) (d:=.int t.1.1)<|pdv 6) (aG (pdv 8)<|aG (pdv 9) aW)) (by rw[aB];omega) ?_;refine bE<|aCX (Z:=wtL P w K) (a:=⟨l3,ls2,S'.T⟩) (ds:=[.lst (L.map<|mvD p),.int b,.tup [.int t.1.1,.int t.1.2],.tup<|cN row,.tup (cN<|nrQ p L row)]) 3 rfl (pv 3) GP hr rfl (aG (pdv 0) (aG (pdv 1)<|aG (pdv 6) (aG (pdv 8)<|aG (pdv 9) aW))) ⟨p,L,b,t.1,row,nrQ p L row,hp,by omega,nbo,by omega,okj.nk,by show tot S'.T+_<=_;omega,rfl,rfl⟩ (λa' h=>h.1) rfl λa' h=> ?_;obtain⟨al,als,aT⟩:=a';obtain⟨h1,h2⟩:=h;have h1:al=l3:=h1;have h2:aT=lgQ p L b t.1 row (nrQ p L row) L.length S'.T:=h2;subst h1 h2;have k:=key ⟨lgQ p L b t.1 row (nrQ p L row) L.length S'.T,S'.kn++[nrQ p L row],S'.fd++[(t.1.1,row,nrQ p L row)]⟩ als (if_neg nk).symm;simp only[aU,aV,dJ] at k;exact k
   ·rw[<-e2] at pj;refine bE (gK (k:=decide<|(500:Int)<(((S2.fd.map fdD).length:Nat):Int)) (mM aIy (pM rfl zlen (aGD 5 rfl<|pv 5)) (aDL (i:=500) rfl hmt ⟨tm,rfl⟩)<|jK _) (λq=> ?_) λq=>cM ?_)
    ·have q:=of_decide_eq_true q;rw[aB] at q;exact bE (aCG (ds:=[.str _]) rfl xk.nw.1 xk.ex (tk (by omega) _) (aG cU aW)<|eI rfl)
    ·have q:=of_decide_eq_false q;rw[aB] at q;exact⟨[.val<|.lst (L.map<|mvD p),.val<|.int b,.val<|.tup (cN<|st0 p),wtS P w K ⟨l3,ls3,S2.T⟩,oG (hkT P w) K l4 (S2.kn.map kM)<|S2.kn.map λ_=>.bl true,.own l5<|S2.fd.map fdD,.val<|rkD t.1,.val (.lst<|(fX t.2).map p2D),.un,.un],⟨.inr rfl,.inr rfl,.inr rfl,.inr rfl,.inr rfl,.inr rfl,.inr rfl,.inr rfl,.inl rfl,.inl rfl,trivial⟩,S2,ls3,e2,by omega,rfl⟩
  ·obtain⟨S',ls3,eS,f1,rfl⟩:=hn;rw[aB,fJ] at eS;subst eS;exact⟨m',[.val<|.lst (L.map<|mvD p),.val<|.int b,.val<|.tup (cN<|st0 p),wtS P w K ⟨l3,ls3,(fdP p L b t.1 S1<|fX t.2).T⟩,oG (hkT P w) K l4 ((fdP p L b t.1 S1<|fX t.2).kn.map kM)<|(fdP p L b t.1 S1<|fX t.2).kn.map λ_=>.bl true,.own l5<|(fdP p L b t.1 S1<|fX t.2).fd.map fdD,.un,.un,.un,.un],mF _,⟨.inr rfl,.inr rfl,.inr rfl,.inr rfl,.inr rfl,.inr rfl,.inl rfl,.inl rfl,.inr rfl,.inr rfl,trivial⟩,fdP p L b t.1 S1<|fX t.2,dn++(fX t.2).map rwP,t.1,ls3,W2,by rw[aM,aB];omega,hR2,f1,rfl⟩
theorem aAv{CN:BF}(F:FI K mg "found_rows" sFd)(zlen:mg "len"=none)(zmin:mg "min"=none)(zlist:mg "list"=none)(zsorted:mg "sorted"=none)(hmt:∃t,mg "MOST_TABLES"=some (.int 500 t))(xk:aKD K mg CN)(GP:pD P w K (wtL P w K) mg base "put_longer_rows" 2 6 aKZ):bU P w K mg base "found_rows" 3 3 aFc/\jS P w K mg base "found_rows" 3 3 aFv (.ref CN) [] []:=by
 constructor
 ·refine dS (N:=nl2) (ps:=["moves","bound","start"]) (k:=2) F λf nd cdv A outer s H E hr ds r hl c=> ?_
  obtain⟨p,L,b,hp,S0,FU,rfl,rfl⟩:=c;exact aEW (E:=E) zlen zmin zlist zsorted hmt xk GP hr PassesOwn.never hp S0 FU.b3 (λh=>absurd FU.le<|aIn h) λ_=>rfl
 ·refine zQ (N:=nl2) (ps:=["moves","bound","start"]) (k:=2) F λf nd cdv A outer s H E hr hE ds hl c=> ?_
  obtain⟨p,L,b,hp,S0,⟨b3,g⟩,rfl⟩:=c;exact aEW (E:=E) zlen zmin zlist zsorted hmt xk GP hr PassesOwn.leaving hp S0 b3 (λ_ sd=>aAw (sd:=sd) hE) λh=>absurd h<|aIn g
theorem aAM(F:FI K mg "table_from" aBm)(ztuple:mg "tuple"=none):bU P w K mg base "table_from" 1 2 aFg:=by
 have nd2:(["number","every"]:List Str).Nodup:=by decide+kernel
 refine dS (N:=["every","numbers"]) (ps:=["every","numbers"]) (k:=0) F λf nd cdv A outer s H E hr ds r hl c=> ?_
 obtain⟨B,nb,h1,h2,rfl,rfl⟩:=c
 have ec:((cN nb).filter λ_=>true).map (λd=>match d with | .int i=>bK (B.getD i.toNat [])|_=>.non)=(nb.map λi=>B.getD i []).map bK:=by rw[dH.mpr λ_ _=>rfl];unfold cN;rw[bH,bH];rfl
 refine bE (nQ<|kT rfl ztuple (PEd.bor<|PEd.val (PEd.cast (kE (ds:=cN nb) (N:=["number","every"]) (M:=["every","numbers"]) (cap:=[none,some 0]) (sc:=bF aBm) (Tb:=λd=>[.val d,.val<|tL B]) (λ_=>true) (λd=>match d with | .int i=>bK (B.getD i.toNat [])|_=>.non) (sG<|pdv 1) (by rw[aAj];omega) rfl (by decide+kernel) rfl (by decide+kernel) rfl (λcl C fp s H d hd=>pgN 0) (λd hd=>⟨.inl rfl,.inr rfl,trivial⟩) (λcl C fp s H d hd=>.inl ⟨rfl,rfl⟩) λcl C2 fp s H d hd _=> ?_)<|by rw[ec])));obtain⟨i,hi,rfl⟩:=aX.mp hd;exact qO (n:=i) (PEd.bor<|pdv 1) (pdv 0) (aGO<|h2 i hi) λ_ _=>rfl
abbrev nl3:List Str:=["size","stock","bound","every","found"]
theorem aCT{CN:BF}(F:FI K mg "book_of" aGl)(zlen:mg "len"=none)(zrange:mg "range"=none)(ztuple:mg "tuple"=none)(GF:bU P w K mg base "fillings" 2 1 aGo)(GM:bU P w K mg base "moves_of" 5 2 aFl)(GR:bU P w K mg base "found_rows" 3 3 aFc/\jS P w K mg base "found_rows" 3 3 aFv (.ref CN) [] [])(GT:bU P w K mg base "table_from" 1 2 aFg):bU P w K mg base "book_of" 6 3 aGm/\jS P w K mg base "book_of" 6 3 xT (.ref CN) [] []:=by
 have nd2:(["price","row","numbers","every"]:List Str).Nodup:=by decide+kernel
 constructor
 ·refine dS (N:=nl3) (ps:=["size","stock","bound"]) (k:=5) F λf nd cdv A outer s H E hr ds r hl c=> ?_
  obtain⟨p,L,b,hp,S,dn,FU,rfl,rfl⟩:=c;have hr2:=hr.mono (show 2<=5 by decide);have hr3:=hr.mono (show 3<=5 by decide);have f9:(cX p).length<=64:=lU hp;have O:=aFs (p:=p) S.pr FU;have l4:=O.len;refine aI<|qR (ds:=(cX p).map bK) 3 (pdc (ds:=[cQ p]) GF hr2 (aG (pdv 0) aW) ⟨p,hp,rfl,rfl⟩) λl5=>iS 3 rfl ?_;refine aI<|qR (ds:=(bkF p L b).map fdD) 4 (pdc (ds:=[.lst (L.map<|mvD p),.int b,tN<|st0 p]) GR.1 hr3 (aG (PEd.val<|pdc (ds:=[cQ p,lK L]) GM hr (aG (pdv 0)<|aG (pdv 1) aW) ⟨p,L,hp,S,dn,rfl,rfl⟩) (aG (pdv 2)<|aG (rH (n:=(cX p).length) rfl ztuple rfl zrange (PEd.ic (pM rfl zlen (PEd.bor<|pdv 3))<|by rw[aB])<|by omega) aW)) ⟨p,L,b,hp,S,FU,rfl,rfl⟩) λl4=>iS 4 rfl ?_
  have ec:(((bkF p L b).map fdD).filter λ_=>true).map (λd=>enD ((unE d).1,(unE d).2.1,jR p (unE d).2.2))=(bkQ p L b).map enD:=by
   rw[dH.mpr λ_ _=>rfl,bH];unfold bkQ;rw[bH];refine cA λe _=> ?_
   show enD ((unE<|fdD e).1,(unE<|fdD e).2.1,jR p (unE<|fdD e).2.2)=_;rw[aGn];rfl
  refine bE<|dR (PEd.cast (kE (ds:=(bkF p L b).map fdD) (N:=["price","row","numbers","every"]) (M:=nl3) (cap:=[none,none,none,some 3]) (sc:=bF aGl) (Tb:=λd=>[.val<|.int (unE d).1,.val (.tup<|cN (unE d).2.1),.val (.tup<|cN (unE d).2.2),.val (tL<|cX p)]) (λ_=>true) (λd=>enD ((unE d).1,(unE d).2.1,jR p (unE d).2.2)) (iC<|pdv 4) (by rw[aB];omega) rfl (by decide+kernel) rfl (by decide+kernel) rfl (λcl C fp s H d hd=> ?_) (λd hd=>⟨.inl rfl,.inl rfl,.inl rfl,.inr rfl,trivial⟩) (λcl C fp s H d hd=>.inl ⟨rfl,rfl⟩) λcl C2 fp s H d hd _=> ?_)<|by rw[ec]) trivial rfl
  ·obtain⟨e,he,rfl⟩:=aX.mp hd;rw[aGn];exact nH (ds:=[.int e.1,tN e.2.1,tN e.2.2]) (js:=[0,1,2]) rfl (fW (pgn 0) (fW (pgn 1)<|fW (pgn 2) nF)) rfl rfl
  ·obtain⟨e,he,rfl⟩:=aX.mp hd;rw[aGn];obtain⟨h1,h2,h3,h4,h5⟩:=O.ent e he;have nbo:=(aAS hp (λs hs=>(S.st s hs).1) h1).1;rw[<-h4] at nbo;exact pdT (ds:=[.int e.1,tN e.2.1,.tup<|(jR p e.2.2).map bK])<|aG (pdv 0) (aG (pdv 1)<|aG (pdc (ds:=[tL<|cX p,tN e.2.2]) GT hr (aG (pdv 3)<|aG (pdv 2) aW) ⟨cX p,e.2.2,by rw[nbo.1];omega,nbo.2,rfl,rfl⟩) aW)
 ·refine zQ (N:=nl3) (ps:=["size","stock","bound"]) (k:=5) F λf nd cdv A outer s H E hr hE ds hl c=> ?_
  obtain⟨p,L,b,hp,S,dn,g,rfl⟩:=c;have hr2:=hr.mono (show 2<=5 by decide);have hr3:=hr.mono (show 3<=5 by decide);have f9:(cX p).length<=64:=lU hp;refine aI<|qR (ds:=(cX p).map bK) 3 (pdc (ds:=[cQ p]) GF hr2 (aG (pdv 0) aW) ⟨p,hp,rfl,rfl⟩) λl5=>iS 3 rfl ?_;exact aI<|aEL 4 nd rfl (Or.inl rfl) (aGV (ds:=[.lst (L.map<|mvD p),.int b,tN<|st0 p]) (dds:=[]) GR.2 rfl hr3 rfl (aG (PEd.val<|pdc (ds:=[cQ p,lK L]) GM hr (aG (pdv 0)<|aG (pdv 1) aW) ⟨p,L,hp,S,dn,rfl,rfl⟩) (aG (pdv 2)<|aG (rH (n:=(cX p).length) rfl ztuple rfl zrange (PEd.ic (pM rfl zlen (PEd.bor<|pdv 3))<|by rw[aB])<|by omega) aW)) (λ_=>RepL.nil) ⟨p,L,b,hp,S,g,rfl⟩ rfl<|aCB hE)
theorem aCl(F:FI K mg "_law_cell_at" aCc)(zlen:mg "len"=none):bU P w K mg base "_law_cell_at" 1 2 aGb:=by
 refine dS (N:=["_law_script","_law_k"]) (ps:=["_law_script","_law_k"]) (k:=0) F λf nd cdv A outer s H E hr ds r hl c=> ?_
 obtain⟨ns,k,rfl,hk,rfl⟩:=c;refine aI<|gK (mM aIN (pdv 1) (aGJ rfl zlen<|pdv 0)<|jK _) (λh=> ?_) λh=>cM ?_
 ·have h':k<ns.length:=by simpa using h
  exact bE (nQ<|aJM (z:=ns.getD k 0) (pdv 0) (pdv 1) (by simp[h']) λ_ _=>rfl)
 ·have h':¬ k<ns.length:=by simpa using h
  refine bE<|dR bW trivial ?_;show R.val (.int 0)=R.val (.int<|ns.getD k 0);simp[cP,h']
theorem aEy(F:FI K mg "_law_mixed" aFj):bU P w K mg base "_law_mixed" 1 2 CMx:=by
 refine dS (N:=["_law_cell","_law_k","_law_number"]) (ps:=["_law_cell","_law_k"]) (k:=0) F λf nd cdv A outer s H E hr ds r hl c=> ?_
 obtain⟨c,k,rfl,hk,rfl⟩:=c;have kb:((k:Nat):Int).natAbs<2^250:=cI (by omega:_<=1000) (by decide);refine aI<|gK (aHO (dP gE (pdv 0) bW<|by decide) bW) (λh=> ?_) λh=>cM ?_
 ·have h':c%2=0:=by simpa using h
  have e2:(2:Int)*2^((8:Int)*(k:Int)).toNat=((2^(8*k+1):Nat):Int):=by
   have:((8:Int)*(k:Int)).toNat=8*k:=by omega
   rw[this,aMg]
   push_cast
   exact aMj _ _
  have lg:(2^(8*k+1):Nat).log2<9000:=by rw[Nat.log2_two_pow];omega
  refine bE<|dR (dP yZ (pdv 0) (PEd.ic (dP aFx bW (dP jP bW (pdv 1)<|jU (by decide) kb) ⟨by omega,by omega,by decide⟩) e2) ⟨pw0 _,lg⟩) trivial ?_;unfold mxS;rw[if_pos h']
 have h':¬ c%2=0:=by simpa using h
 have c1:=dX c (show(2147483647:Int)≠0 by decide);have c2:=dD c (show(0:Int)<2147483647 by decide);have big:∀z:Int,0<=z/\z<2147483647+69621*400+7919->z.natAbs<2^250:=λz hz=>cI (by omega:z.natAbs<=3000000000)<|by decide
 refine aI<|jE (d:=.int<|mx1 c k) 2 (dP gE (dP jP (fV iJ (fV iJ (dP gE (pdv 0) bW<|by decide) (dP jP bW (pdv 1)<|jU (by decide) kb)) bW) bW (jU (big _ ⟨by omega,by omega⟩)<|by decide)) bW<|by decide) ?_;have r1:0<=mx1 c k/\mx1 c k<2147483647:=⟨dX _<|by decide,dD _<|by decide⟩;refine aI<|jE (d:=.int<|mx2 c k) 2 (dP gE (dP jP (pdv 2) (pdv 2) (jU (big _ ⟨by omega,by omega⟩)<|big _ ⟨by omega,by omega⟩)) bW<|by decide) ?_;have r2:0<=mx2 c k/\mx2 c k<2147483629:=⟨dX _<|by decide,dD _<|by decide⟩;refine bE<|dR (dP gE (fV iJ (dP jP (pdv 2) (pdv 2) (jU (big _ ⟨by omega,by omega⟩)<|big _ ⟨by omega,by omega⟩)) (dP jP bW (pdv 1)<|jU (by decide) kb)) bW<|by decide) trivial ?_;unfold mxS;rw[if_neg h']
def aBs:List D->R->Prop:=λds r=>∃p,p∈cG/\ds=[cQ p]/\r=.own ((gJ (2^p.1.toNat) p.2.toNat).map bK)
abbrev nl4:List Str:=["_law_size","_law_found","_law_box","_law_longer","_law_one"]
theorem aAp(F:FI K mg "_law_fillings" aAY)(zrange:mg "range"=none):bU P w K mg base "_law_fillings" 1 1 aBs:=by
 refine dS (N:=nl4) (ps:=["_law_size"]) (k:=0) F λf nd cdv A outer s H E hr ds r hl c=> ?_
 obtain⟨p,hp,rfl,rfl⟩:=c;obtain⟨h1,h2,h3,h4,h5⟩:=uX p hp;have e2:p.2=((p.2.toNat:Nat):Int):=by omega
 have e1:p.1=((p.1.toNat:Nat):Int):=by omega
 have nd2:(["_law_word_here","_law_one"]:List Str).Nodup:=by decide+kernel
 have m64:2^p.1.toNat<=64:=by
  have:p.1.toNat<=6:=by omega
  exact cC (oJ (by decide) this)<|by decide
 refine aI<|qR (ds:=[bK []]) 1 (pdL (ds:=[bK []])<|aG (aBc (ds:=[]) aW<|bJ _) aW) λl=> ?_;refine aI<|iE (ds:=fZ 0 p.2.toNat) (λk sd=>∃l,sd=[.val<|cQ p,.own l<|(gJ (2^p.1.toNat) k).map bK,.un,.un,.un]) (gW (n:=p.2.toNat) rfl zrange (PEd.cast (pdx (n:=1) (d:=.int p.2)<|pdv 0)<|by rw[<-e2])<|by omega) ⟨_,Le.refl _,l,rfl⟩ (λk d sdk hd hk=> ?_) λsdn hn=> ?_
 ·obtain⟨hk2,rfl⟩:=gQ hd;obtain⟨l2,rfl⟩:=hk
  have hsm:(gJ (2^p.1.toNat) k).length*2^p.1.toNat<=900:=by rw[sJ];exact wF p hp k hk2
  have lens:=uH (2^p.1.toNat) k;have eL:gJ (2^p.1.toNat) (k+1)=(gJ (2^p.1.toNat) k).flatMap λs=>(bQ<|2^p.1.toNat).map λ(w:Nat)=>s++[(w:Int)]:=rfl
  rw[eL];generalize gJ (2^p.1.toNat) k=L at *;refine⟨_,pgN 2,iS 1 rfl ?_⟩;refine aI<|oX 3 nd rfl (Or.inl rfl) (mQ (ds:=[]) aW<|bJ _) λl3=> ?_;refine aI<|sI (ds:=L.map bK) (λt=>[.val<|cQ p,.val<|tL L,.un,.own l3<|((L.take t).flatMap λs=>(bQ<|2^p.1.toNat).map λ(w:Nat)=>s++[(w:Int)]).map bK,.un]) (λt=>[.val<|cQ p,.val<|tL L,.un,.own l3<|((L.take t).flatMap λs=>(bQ<|2^p.1.toNat).map λ(w:Nat)=>s++[(w:Int)]).map bK,.val (bK<|L.getD t [])]) (iC<|pdv 1) ⟨.inr rfl,.inr rfl,.inl rfl,.inr rfl,.inr rfl,trivial⟩ (λt d hd=> ?_) (λt d hd=> ?_) ?_
  ·obtain⟨_,rfl⟩:=oY hd;exact pgN 4
  ·obtain⟨ht,rfl⟩:=oY hd;have hmem:L.getD t []∈L:=DL.getD_mem ht
   have et:L.take (t+1)=L.take t++[L.getD t []]:=by rw[eX];simp[cP,ht]
   have lk:(L.take t).length*2^p.1.toNat+2^p.1.toNat<=900:=by
    have h1:(L.take t).length+1<=L.length:=by rw[cO];omega
    have h2:=jT (2^p.1.toNat) h1;rw[aDn] at h2;omega
   have ec:((fZ 0<|2^p.1.toNat).filter λ_=>true).map (λd=>D.tup<|(L.getD t []).map D.int++[d])=((bQ<|2^p.1.toNat).map λ(w:Nat)=>L.getD t []++[(w:Int)]).map bK:=by
    rw[dH.mpr λ_ _=>rfl];unfold fZ;rw[bH,bH];refine cA λw _=> ?_
    simp[bK]
   have lt:=lens _ hmem;refine bE<|uP (ds2:=((bQ<|2^p.1.toNat).map λ(w:Nat)=>L.getD t []++[(w:Int)]).map bK) 3 rfl (pv 3) (PEd.val (PEd.cast (pdC (N:=["_law_word_here","_law_one"]) (M:=nl4) (cap:=[none,some 4]) (sc:=bF aAY) (Tb:=λd=>[.val d,.val (bK<|L.getD t [])]) (λ_=>true) (λd=>D.tup<|(L.getD t []).map D.int++[d]) (gW (n:=2^p.1.toNat) rfl zrange (xC (k:=p.1.toNat) (PEd.ic (pdx (n:=0)<|pdv 0) e1)<|by omega)<|by omega) (by rw[fQ];omega) (λcl C fp s H d _=>.inl ⟨rfl,rfl⟩) λcl C fp s H d _ _=>lX (pdv 1) (pdT (ds:=[d])<|aG (pdv 0) aW) ?_)<|by rw[ec])) ?_ ?_
   ·simp only[aB,bL,eZ];omega
   ·rw[aB,mP,aB,aB,eY];omega
   ·refine⟨.inr rfl,.inr rfl,.inr rfl,.inr ?_,.inl rfl,trivial⟩;rw[et,aDt,aU];simp
  ·rw[aB,fJ];refine bE<|aEN 1 3 rfl nd rfl (Or.inl rfl) (pv 3) ?_;exact⟨_,Le.refl _,l3,rfl⟩
 ·obtain⟨l2,rfl⟩:=hn;refine bE<|jV 1 rfl (pv 1) ?_;show R.own _=R.own _;rw[fQ]
theorem xM:∀k,k<10->decide (V.str (nm k)=V.str "down")=decide (k=9):=by decide+kernel
theorem aFi{ws:List Int}{i:Nat}(h:i<ws.length):(ws.map D.int)[i]? =some (.int<|ws.getD i 0):=by simp[cP,h]
abbrev nl5:List Str:=["_law_size","_law_step","_law_filling"]
theorem aGE(F:FI K mg "_law_word" aFd):bU P w K mg base "_law_word" 1 3 aIz:=by
 refine dS (N:=["_law_size","_law_step","_law_filling","_law_most","_law_name","_law_a","_law_b"]) (ps:=nl5) (k:=0) F λf nd cdv A outer s H E hr ds r hl c=> ?_
 obtain⟨p,⟨k,i,j,n⟩,ws,O,G,rfl,rfl⟩:=c;obtain⟨h1,h2,h3,h4,h5⟩:=uX p O.sz;have e1:p.1=((p.1.toNat:Nat):Int):=by omega
 have m0:=pw0 p.1.toNat;have wl:=G.len;obtain⟨_,k10,i0,j0,n0⟩:=O;simp only at i0 j0 k10;have ai:(ws.map D.int)[i.toNat]? =some (.int<|ws.getD i.toNat 0):=aFi (by omega);have aj:(ws.map D.int)[j.toNat]? =some (.int<|ws.getD j.toNat 0):=aFi (by omega);show PSd _ (init _ [cQ p,hV k i j n,bK ws]) _ {nx:=λ_=>R.val (.int<|newW k ((2^p.1.toNat:Nat):Int) (ws.getD i.toNat 0) (ws.getD j.toNat 0) n)=.val .non,rt:=λr'=>r'=.val (.int<|newW k ((2^p.1.toNat:Nat):Int) (ws.getD i.toNat 0) (ws.getD j.toNat 0) n)};have t_put:=qJ k k10;have t_not:=yB k k10;have t_up:=aDx k k10;have t_dn:=xM k k10;refine aI<|jE (d:=.int ((2^p.1.toNat:Nat):Int)) 3 (xC (PEd.ic (pdx (n:=0) (d:=.int p.1)<|pdv 0) e1)<|by omega) ?_
 by_cases k6:k<6
 ·have es:hV k i j n=.tup [.str<|nm k,.int i,.int j]:=by unfold hV;rw[if_pos k6]
  have en:newW k ((2^p.1.toNat:Nat):Int) (ws.getD i.toNat 0) (ws.getD j.toNat 0) n=xR k ((2^p.1.toNat:Nat):Int) (ws.getD i.toNat 0) (ws.getD j.toNat 0):=by unfold newW;rw[if_neg<|by omega,if_neg<|by omega]
  rw[es,en];refine aI<|jE (d:=.str<|nm k) 4 (pdx (n:=0)<|pdv 1) ?_;refine aI<|jE (d:=.int<|ws.getD i.toNat 0) 5 (lM (i:=i) (pdv 2) (pdx (n:=1)<|pdv 1) i0.1 ai λ_ _=>rfl) ?_;refine aI (fB (cE (pdv 4) cU rfl rfl rfl t_put) (decide_eq_false<|by omega)<|cM ?_);refine aI (fB (cE (pdv 4) cU rfl rfl rfl t_not) (decide_eq_false<|by omega)<|cM ?_);refine aI (fB (cE (pdv 4) cU rfl rfl rfl t_up) (decide_eq_false<|by omega)<|cM ?_);refine aI (fB (cE (pdv 4) cU rfl rfl rfl t_dn) (decide_eq_false<|by omega)<|cM ?_);refine aI<|jE (d:=.int<|ws.getD j.toNat 0) 6 (lM (i:=j) (pdv 2) (pdx (n:=2)<|pdv 1) j0.1 aj λ_ _=>rfl) ?_
  by_cases k0':k=0
  ·refine aI<|gU (cE (pdv 4) cU rfl rfl rfl<|aBb k k10) (decide_eq_true k0') (bE<|dR (fV aFD (pdv 5)<|pdv 6) trivial ?_);rw[k0'];rfl
  refine aI (fB (cE (pdv 4) cU rfl rfl rfl<|aBb k k10) (decide_eq_false k0')<|cM ?_)
  by_cases k1':k=1
  ·refine aI<|gU (cE (pdv 4) cU rfl rfl rfl<|aGa k k10) (decide_eq_true k1') (bE<|dR (fV aIO (pdv 5)<|pdv 6) trivial ?_);rw[k1'];rfl
  refine aI (fB (cE (pdv 4) cU rfl rfl rfl<|aGa k k10) (decide_eq_false k1')<|cM ?_)
  by_cases k2':k=2
  ·refine aI<|gU (cE (pdv 4) cU rfl rfl rfl<|aBg k k10) (decide_eq_true k2') (bE<|dR (fV aFB (pdv 5)<|pdv 6) trivial ?_);rw[k2'];rfl
  refine aI (fB (cE (pdv 4) cU rfl rfl rfl<|aBg k k10) (decide_eq_false k2')<|cM ?_)
  by_cases k3':k=3
  ·refine aI<|gU (cE (pdv 4) cU rfl rfl rfl<|aBn k k10) (decide_eq_true k3') (bE<|dR (dP gE (fV iJ (pdv 5)<|pdv 6) (pdv 3) m0) trivial ?_);rw[k3'];rfl
  refine aI (fB (cE (pdv 4) cU rfl rfl rfl<|aBn k k10) (decide_eq_false k3')<|cM ?_)
  by_cases k4':k=4
  ·refine aI<|gU (cE (pdv 4) cU rfl rfl rfl<|xG k k10) (decide_eq_true k4') (bE<|dR (dP gE (fV qP (pdv 5)<|pdv 6) (pdv 3) m0) trivial ?_);rw[k4'];rfl
  refine aI (fB (cE (pdv 4) cU rfl rfl rfl<|xG k k10) (decide_eq_false k4')<|cM ?_);have k5:k=5:=by omega
  refine bE<|dR (pdv 6) trivial ?_;rw[k5];rfl
 by_cases k6':k=6
 ·have es:hV k i j n=.tup [.str<|nm k,.int i,.int n]:=by unfold hV;rw[if_neg k6,if_pos k6']
  rw[es];refine aI<|jE (d:=.str<|nm k) 4 (pdx (n:=0)<|pdv 1) ?_;refine aI<|jE (d:=.int<|ws.getD i.toNat 0) 5 (lM (i:=i) (pdv 2) (pdx (n:=1)<|pdv 1) i0.1 ai λ_ _=>rfl) ?_;refine aI<|gU (cE (pdv 4) cU rfl rfl rfl t_put) (decide_eq_true k6') (bE<|dR (pdx (n:=2)<|pdv 1) trivial ?_);rw[k6'];rfl
 have es:hV k i j n=.tup [.str<|nm k,.int i]:=by unfold hV;rw[if_neg k6,if_neg k6']
 rw[es];refine aI<|jE (d:=.str<|nm k) 4 (pdx (n:=0)<|pdv 1) ?_;refine aI<|jE (d:=.int<|ws.getD i.toNat 0) 5 (lM (i:=i) (pdv 2) (pdx (n:=1)<|pdv 1) i0.1 ai λ_ _=>rfl) ?_;refine aI (fB (cE (pdv 4) cU rfl rfl rfl t_put) (decide_eq_false<|by omega)<|cM ?_)
 by_cases k7:k=7
 ·refine aI<|gU (cE (pdv 4) cU rfl rfl rfl t_not) (decide_eq_true k7) (bE<|dR (fV qP (fV qP (pdv 3) bW)<|pdv 5) trivial ?_);rw[k7];rfl
 refine aI (fB (cE (pdv 4) cU rfl rfl rfl t_not) (decide_eq_false k7)<|cM ?_)
 by_cases k8:k=8
 ·refine aI<|gU (cE (pdv 4) cU rfl rfl rfl t_up) (decide_eq_true k8) (bE<|dR (PEd.ic (dP gE (dP aJO bW (pdv 5)<|.inl ⟨by decide,by decide⟩) (pdv 3) m0)<|by rw[aMj]) trivial ?_);rw[k8];rfl
 refine aI (fB (cE (pdv 4) cU rfl rfl rfl t_up) (decide_eq_false k8)<|cM ?_);have k9:k=9:=by omega
 refine aI<|gU (cE (pdv 4) cU rfl rfl rfl t_dn) (decide_eq_true k9) (bE<|dR (dP yZ (pdv 5) bW ⟨by decide,by decide⟩) trivial ?_);rw[k9];rfl
theorem aDY(q:SQ):∃es,sqD q=.tup (.str (nm q.1)::.int q.2.1::es):=by
 show ∃es,hV _ _ _ _=_;unfold hV
 split
 ·exact⟨_,rfl⟩
 ·split
  ·exact⟨_,rfl⟩
  ·exact⟨_,rfl⟩
theorem aDD(F:FI K mg "_law_after" aLT)(GW:bU P w K mg base "_law_word" 1 3 aIz):bU P w K mg base "_law_after" 2 3 aFL:=by
 refine dS (N:=nl5) (ps:=nl5) (k:=1) F λf nd cdv A outer s H E hr ds r hl c=> ?_
 obtain⟨p,q,ws,O,G,rfl,rfl⟩:=c;obtain⟨h1,h2,h3,h4,h5⟩:=uX p O.sz;have wl:=G.len;have i0:=O.i0;have li:q.2.1.toNat<ws.length:=by omega
 have ei:q.2.1=((q.2.1.toNat:Nat):Int):=by omega
 obtain⟨es0,es1⟩:=aDY q;have bx:∀ {X:Cx}{sd:List Slot}{a:Expr}{n0:Nat}{p1 p2:Pos},PEd X sd a (.val<|sqD q)->PEd X sd (.Subscript a (.Constant (.int 1) n0 p1) p2) (.val<|.int ((q.2.1.toNat:Nat):Int)):=λha=>PEd.ic (pdx (n:=1) (ds:=.str (nm q.1)::.int q.2.1::es0) (PEd.cast ha<|by rw[es1])) ei
 refine bE<|dR (PEd.cast (lX (lX (yE (ol:=none) (oh:=some ((q.2.1.toNat:Nat):Int)) (pdv 2) trivial (bx<|pdv 1) ?_) (pdT (ds:=[.int<|nwQ p q ws])<|aG (pdc (ds:=[cQ p,sqD q,bK ws]) GW hr (aG (pdv 0) (aG (pdv 1)<|aG (pdv 2) aW)) ⟨p,q,ws,O,G,rfl,rfl⟩) aW) ?_) (yE (ol:=some<|((q.2.1.toNat:Nat):Int)+1) (oh:=none) (pdv 2) (fV iJ (bx<|pdv 1) bW) trivial ?_) ?_) ?_) trivial rfl
 ·rw[HT.sIx_nat,aB];omega
 ·rw[qK ws li];simp only[aB,cO,bL,eZ];omega
 ·have e:(((q.2.1.toNat:Nat):Int)+1)=((q.2.1.toNat+1:Nat):Int):=by push_cast;rfl
  rw[e,HT.sIx_nat,aB];omega
 ·rw[qK ws li,pE ws li];simp only[aM,aB,cO,jI,bL,eZ];omega
 ·rw[qK ws li,pE ws li];unfold bK onQ;rw[qX,if_pos li];simp
theorem aGy:∀k:Nat,k<10->([.str "and",.str "or",.str "xor",.str "add",.str "take",.str "copy",.str "put",.str "not",.str "up",.str "down"]:List D)[k]? =some (.str<|nm k):=by
 intro k hk
 match k,hk with
 |0,_=>rfl
 |1,_=>rfl
 |2,_=>rfl
 |3,_=>rfl
 |4,_=>rfl
 |5,_=>rfl
 |6,_=>rfl
 |7,_=>rfl
 |8,_=>rfl
 |9,_=>rfl
abbrev nl6:List Str:=["_law_size","_law_cell","_law_name","_law_i"]
theorem aHv(F:FI K mg "_law_drawn" aBr)(GM:bU P w K mg base "_law_mixed" 1 2 CMx):bU P w K mg base "_law_drawn" 2 2 aIM:=by
 refine dS (N:=nl6) (ps:=["_law_size","_law_cell"]) (k:=1) F λf nd cdv A outer s H E hr ds r hl c=> ?_
 obtain⟨p,c,hp,rfl,rfl⟩:=c;obtain⟨h1,h2,h3,h4,h5⟩:=uX p hp;have m0:=pw0 p.1.toNat;have e1:p.1=((p.1.toNat:Nat):Int):=by omega
 have p20:(0:Int)<p.2:=by omega
 have d0:=dX (mxS c 1) (show(10:Int)≠0 by decide);have d1:=dD (mxS c 1) (show(0:Int)<10 by decide);have mx:∀ {sd:List Slot}{j0:Nat}{p1 p2 p3 p4:Pos} (k:Nat),k<=400->sd[1]? =some (.val<|.int c)->PEd (jL CX0 P w K mg base nl6 "_law_drawn" (bF aBr) f cdv A outer s H E).nox sd (.Call (.Name "_law_mixed" p1) [.Name "_law_cell" p2, .Constant (.int (k:Int)) j0 p4] [] p3) (.val (.int<|mxS c k)):=λk hk hs=>pdc (ds:=[.int c,.int (k:Int)]) GM hr (aG (mR 1 hs<|pv 1)<|aG bW aW) ⟨c,k,rfl,hk,rfl⟩
 refine aI<|jE (d:=.str<|nm (mxS c 1%10).toNat) 2 (sC (i:=mxS c 1%10) (ds:=[.str "and",.str "or",.str "xor",.str "add",.str "take",.str "copy",.str "put",.str "not",.str "up",.str "down"]) (PEd.bor (PEd.val<|pdL (ds:=[.str "and",.str "or",.str "xor",.str "add",.str "take",.str "copy",.str "put",.str "not",.str "up",.str "down"]) ?_)) (dP gE (mx 1 (by decide) rfl) bW<|by decide) d0 (aGy _<|by omega) λ_ _=>rfl) ?_
 ·show PAd _ _ _ [.val<|.str "and",.val<|.str "or",.val<|.str "xor",.val<|.str "add",.val<|.str "take",.val<|.str "copy",.val<|.str "put",.val<|.str "not",.val<|.str "up",.val<|.str "down"]
  repeat' (first|exact aW|refine aG cU ?_)
 refine aI<|jE (d:=.int<|mxS c 2%p.2) 3 (dP gE (mx 2 (by decide) rfl) (pdx (n:=1) (d:=.int p.2)<|pdv 0) p20) ?_;have k10:(mxS c 1%10).toNat<10:=by omega
 show PSd _ _ _ {nx:=λ_=>R.val (hV (mxS c 1%10).toNat (mxS c 2%p.2) (mxS c 4%p.2)<|mxS c 3%((2^p.1.toNat:Nat):Int))=.val .non,rt:=λr'=>r'=.val (hV (mxS c 1%10).toNat (mxS c 2%p.2) (mxS c 4%p.2)<|mxS c 3%((2^p.1.toNat:Nat):Int))};generalize (mxS c 1%10).toNat=k at *
 by_cases k6:k=6
 ·refine aI<|gU (cE (pdv 2) cU rfl rfl rfl<|qJ k k10) (decide_eq_true k6) (bE<|dR (pdT (ds:=[.str<|nm k,.int<|mxS c 2%p.2,.int<|mxS c 3%((2^p.1.toNat:Nat):Int)])<|aG (pdv 2) (aG (pdv 3)<|aG (dP gE (mx 3 (by decide) rfl) (xC (PEd.ic (pdx (n:=0) (d:=.int p.1)<|pdv 0) e1)<|by omega) m0) aW)) trivial ?_);show R.val _=R.val _;unfold hV;rw[if_neg<|by omega,if_pos k6]
 refine aI (fB (cE (pdv 2) cU rfl rfl rfl<|qJ k k10) (decide_eq_false k6)<|cM ?_)
 by_cases k7:7<=k
 ·refine aI (gU (PWd.pt<|qU (cE (pdv 2) cU rfl rfl rfl<|yB k k10) λ_=>qU (cE (pdv 2) cU rfl rfl rfl<|aDx k k10) λ_=>rZ (cE (pdv 2) cU rfl rfl rfl<|xM k k10)) (by rcases(by omega:k=7\/k=8\/k=9) with h|h|h<;>simp[h]) (bE<|dR (pdT (ds:=[.str<|nm k,.int<|mxS c 2%p.2]) (aG (pdv 2)<|aG (pdv 3) aW)) trivial ?_))
  show R.val _=R.val _;unfold hV;rw[if_neg<|by omega,if_neg k6]
 refine aI (fB (PWd.pt (qU (cE (pdv 2) cU rfl rfl rfl (yB k k10)) fun _=>qU (cE (pdv 2) cU rfl rfl rfl (aDx k k10)) fun _=>rZ (cE (pdv 2) cU rfl rfl rfl (xM k k10)))) (by
  have a1:¬ k=7:=by omega
  have a2:¬ k=8:=by omega
  have a3:¬ k=9:=by omega
  simp[a1,a2,a3]) (cM ?_))
 refine bE<|dR (pdT (ds:=[.str<|nm k,.int<|mxS c 2%p.2,.int<|mxS c 4%p.2])<|aG (pdv 2) (aG (pdv 3)<|aG (dP gE (mx 4 (by decide) rfl) (pdx (n:=1) (d:=.int p.2)<|pdv 0) p20) aW)) trivial ?_;show R.val _=R.val _;unfold hV;rw[if_pos<|by omega]
theorem aEO(F:FI K mg "_law_moves" aLW)(GF:bU P w K mg base "_law_fillings" 1 1 aBs)(GA:bU P w K mg base "_law_after" 2 3 aFL):bU P w K mg base "_law_moves" 3 2 (aLX P w K):=by
 refine dS (N:=["_law_size","_law_kit","_law_moves_here","_law_step","_law_price","_law_made","_law_filling"]) (ps:=["_law_size","_law_kit"]) (k:=2) F λf nd cdv A outer s H E hr ds r hl c=> ?_
 obtain⟨p,L,hp,S,rfl,rfl⟩:=c;have hu:=uN hr 2;have f9:(cX p).length<=64:=lU hp;have l8:=S.le;refine aI<|qR (ds:=[]) 2 (mQ (ds:=[]) aW<|bJ _) λl2=> ?_;refine aI<|iE (ds:=L.map skD) (λt sd=>sd=[.val<|cQ p,.val<|lK L,.own l2 ((L.take t).map<|mgD P w K p),.un,.un,.un,.un]) (iC<|pdv 1) ⟨_,Le.refl _,rfl⟩ (λt d sdt hd ht=> ?_) λsdn hn=> ?_
 ·obtain⟨sk,hsk,rfl,et⟩:=pV hd;have O:=(S.st sk<|aN hsk).1;have tk:((L.take t).map<|mgD P w K p).length<=10000:=by rw[aB,cO];omega
  rw[et,aU];subst ht;generalize (L.take t).map (mgD P w K p)=vs at tk;refine⟨[.val<|cQ p,.val<|lK L,.own l2 vs,.val<|sqD sk.1,.val<|.int sk.2,.un,.un],nH (ds:=[sqD sk.1,.int sk.2]) (js:=[3,4]) rfl (fW (pgn 3)<|fW (pgn 4) nF) rfl rfl, ?_⟩;refine aI<|uJ (hkT P w) 5 nd rfl (Or.inl rfl) λl5=> ?_;refine aI<|iE (ds:=(cX p).map bK) (λm sd=>sd=[.val<|cQ p,.val<|lK L,.own l2 vs,.val<|sqD sk.1,.val<|.int sk.2,oG (hkT P w) K l5 (((cX p).take m).map inK) (((cX p).take m).map λws=>bK<|onQ p sk.1 ws),.un]) (iC (PEd.val<|pdc (ds:=[cQ p]) GF hr (aG (pdv 0) aW) ⟨p,hp,rfl,rfl⟩)) ⟨_,Le.refl _,rfl⟩ (λm d sdm hd hm=> ?_) λsdn hn=> ?_
  ·obtain⟨ws,hws,rfl,em⟩:=pV hd;have G:=yM hp (aN hws)
   have nk:inK ws∉((cX p).take m).map inK:=λz=>by obtain⟨y,y1,y2⟩:=aX.mp z;rw[xX y2] at y1;exact aHT (aCO hp) hws y1
   have tk2:(((cX p).take m).map λws=>bK<|onQ p sk.1 ws).length<=10000:=by rw[aB,cO];omega
   rw[em,aU,aU];subst hm;generalize ((cX p).take m).map inK=ks at nk;generalize ((cX p).take m).map (λws=>bK<|onQ p sk.1 ws)=us at tk2;refine⟨[.val<|cQ p,.val<|lK L,.own l2 vs,.val<|sqD sk.1,.val<|.int sk.2,oG (hkT P w) K l5 ks us,.val<|bK ws],pgN 6, ?_⟩;exact bE (tH (hk:=hkT P w) (k:=inK ws) (d:=bK<|onQ p sk.1 ws) 5 hu rfl (pv 5) (pdc (ds:=[cQ p,sqD sk.1,bK ws]) GA hr (aG (pdv 0) (aG (pdv 3)<|aG (pdv 6) aW)) ⟨p,sk.1,ws,O,G,rfl,rfl⟩) (PEd.cast (pdv 6)<|by rw[show(hkT P w).dat (inK ws)=tD (inK ws) from rfl,aGj]) nk tk2<|nxt (b:=[.val<|cQ p,.val<|lK L,.own l2 vs,.val<|sqD sk.1,.val<|.int sk.2,oG (hkT P w) K l5 (ks++[inK ws]) (us++[bK<|onQ p sk.1 ws]),.un]) rfl)
  ·subst hn;rw[aB,fJ];refine aEB 5 rfl ?_;refine bE<|lR (d:=mgD P w K p sk) 2 rfl (pv 2) (pdv 5) tk ?_;exact(nxt (b:=[.val<|cQ p,.val<|lK L,.own l2<|vs++[mgD P w K p sk],.un,.un,.un,.un]) rfl)
 ·subst hn;rw[aB,fJ];exact bE<|jV 2 rfl (pv 2) rfl
theorem aGU(p:Int×Int)(L:List SK)(t:Nat):cnD p L (t+1)=cnD p L t++[.int ((iT p L<|t+1).1.length:Int)]:=by unfold cnD;rw[aIl,aU];rfl
abbrev nl7:List Str:=["_law_filling","_law_moves_here","_law_k"]
abbrev nl8:List Str:=["_law_size","_law_kit","_law_most","_law_moves_here","_law_start","_law_layers","_law_known","_law_counts_here","_law_price","_law_table","_law_k","_law_behind"]
theorem aEg(F:FI K mg "_law_counts" aKE)(zrange:mg "range"=none)(zlen:mg "len"=none)(ztuple:mg "tuple"=none)(GF:bU P w K mg base "_law_fillings" 1 1 aBs)(GM:bU P w K mg base "_law_moves" 3 2 (aLX P w K)):bU P w K mg base "_law_counts" 4 3 aFu:=by
 have nd2:nl7.Nodup:=by decide+kernel
 refine dS (N:=nl8) (ps:=["_law_size","_law_kit","_law_most"]) (k:=3) F λf nd cdv A outer s H E hr ds r hl c=> ?_
 obtain⟨p,L,hp,S,rfl,rfl⟩:=c;have hu:=uN hr 2;have hu1:=uN hr 1;have f9:(cX p).length<=64:=lU hp;have l8:=S.le;have hpr:=S.pr;have ln:∀ {l4:BF}{sd:List Slot}{p1 p2 p3:Pos}{ks:List (List<|List Key)}{ds:List D},sd[6]? =some (oG (hkN P w) K l4 ks ds)->PEd (jL CX0 P w K mg base nl8 "_law_counts" (bF aKE) f cdv A outer s H E).nox sd (.Call (.Name "len" p1) [.Name "_law_known" p2] [] p3) (.val<|.int ks.length):=λhs=>aHe (hk:=hkN P w) rfl zlen (yK 6 hs<|pv 6)
 refine aI<|qR (ds:=L.map<|mgD P w K p) 3 (pdc (ds:=[cQ p,lK L]) GM hr (aG (pdv 0)<|aG (pdv 1) aW) ⟨p,L,hp,S,rfl,rfl⟩) λl2=>iS 3 rfl ?_;refine aI<|jE (d:=.tup<|(cX p).map bK) 4 (kT rfl ztuple<|PEd.bor (PEd.val<|pdc (ds:=[cQ p]) GF hr (aG (pdv 0) aW) ⟨p,hp,rfl,rfl⟩)) ?_;refine aI<|aDc (-1) 5 nd rfl (Or.inl rfl) λl3=> ?_;refine aI (aCW (ds:=[tlD ([],cX p)]) (k:=0) 5 rfl (pdL (ds:=[tlD ([],cX p)])<|aG (pdv 4) aW) (by decide) rfl (eI rfl) (λa ls'=> ?_)<|aHJ hu1 (pv 5) pe_int fG rfl);refine aI<|uJ (hkN P w) 6 nd rfl (Or.inl rfl) λl4=> ?_;refine aI<|qR (ds:=cnD p L 0) 7 (pdL (ds:=[]) aW) λl7=> ?_
 have e0:jX (λ_=>[]) 0 [tlD ([],cX p)]=lyT (iT p L 0):=funext λj=>by
  show(if j=0 then[tlD ([],cX p)] else[])=List.map tlD (if j=0 then[(([]:List Nat),cX p)] else[])
  split<;>rfl
 rw[e0];have cl:∀t,(cnD p L t).length=t:=λt=>by unfold cnD;rw[aB,eY]
 refine aI<|iE (ds:=fZ 0 41) (λt sd=>∃q kvs ls,q+1=(t:Int)/\kvs.length<=1+8*(iT p L t).1.length/\sd=[.val<|cQ p,.val<|lK L,.val<|.int 500,.val<|.lst (L.map<|mgD P w K p),.val (.tup<|(cX p).map bK),oLy K l3 q (lyT<|iT p L t) kvs ls,oG (hkN P w) K l4 (ksE (iT p L t).1)<|(iT p L t).1.map λ_=>.bl true,.own l7<|cnD p L t,.un,.un,.un,.un]) (gW (n:=41) rfl zrange bW<|by decide) ⟨_,Le.refl _, -1,_,_,rfl,aIm 1 _,rfl⟩ (λt d sdt hd ht=> ?_) λsdn hn=> ?_
 ·obtain⟨q,kvs,ls,hq,hkv,rfl⟩:=ht;obtain⟨ht,rfl⟩:=gQ hd;rw[mX];have oT:=S45.ok_run (beh:=hW p L) (t0:=cX p) hpr t;have bT:S45.Bd L.length (iT p L t):=S45.run_bd t;have eR:iT p L (t+1)=((iT p L t).2 (t:Int)).foldl (S45.one L.length (prK L) (hW p L) (t:Int)) (iT p L t):=rfl;rw[eR];have oT:S45.Ok L.length (prK L) (hW p L) (cX p) (t:Int) ((iT p L t).2 (t:Int)) (iT p L t):=oT;have eR':=eR;generalize iT p L t=s0 at oT bT hkv eR';refine⟨[.val<|cQ p,.val<|lK L,.val<|.int 500,.val<|.lst (L.map<|mgD P w K p),.val (.tup<|(cX p).map bK),oLy K l3 q (lyT s0) kvs ls,oG (hkN P w) K l4 (ksE s0.1)<|s0.1.map λ_=>.bl true,.own l7<|cnD p L t,.val<|.int (t:Int),.un,.un,.un],pgN 8, ?_⟩;refine aHQ 5 rfl λls'=> ?_
  rw[hq];refine aI<|iE (ds:=lyT s0 (t:Int)) (λj sd=>∃kvs ls s,s=((s0.2 (t:Int)).take j).foldl (S45.one L.length (prK L) (hW p L) (t:Int)) s0/\kvs.length<=1+8*s.1.length/\sd=[.val<|cQ p,.val<|lK L,.val<|.int 500,.val<|.lst (L.map<|mgD P w K p),.val (.tup<|(cX p).map bK),oLy K l3 (t:Int) (lyT s) kvs ls,oG (hkN P w) K l4 (ksE s.1)<|s.1.map λ_=>.bl true,.own l7<|cnD p L t,.val<|.int (t:Int),.un,.un,.un]) (iC<|aEM 5 hu1 rfl (pv 5) (pdv 8) ⟨rfl,rfl,rfl,rfl⟩) ⟨_,Le.refl _,kvs,ls',s0,rfl,hkv,rfl⟩ (λj d sdj hd hj=> ?_) λsdn hn=> ?_
  ·obtain⟨kvs,ls,s,es,hkv,rfl⟩:=hj;obtain⟨x,hx,rfl,ex⟩:=pV hd
   have o:S45.Ok L.length (prK L) (hW p L) (cX p) (t:Int) ((s0.2 (t:Int)).drop j) s:=by rw[es];exact S45.Ok.take hpr (by omega) j oT
   have b:S45.Bd L.length s:=by rw[es];exact S45.fold_bd bT
   have xr:x∈(s0.2 (t:Int)).drop j:=by refine aN (i:=0) ?_;rw[aET];exact hx
   obtain⟨x1,x2,x3,_⟩:=o.ly _ x<|o.sub x xr
   have rl:x.1.length<=40:=by
    have:=S45.len_pr (pr:=prK L) x.1 λk hk=>hpr k<|x2 k hk
    omega
   have tl:x.2.length<=64:=by rw[x3];exact aCP hp S x2
   have ti:∀ws∈x.2,ws∈cX p:=λws hw=>by rw[x3] at hw;exact aDP hp S x2 ws hw
   have sl:s.1.length<=501:=o.le
   have eS:((s0.2 (t:Int)).take<|j+1).foldl (S45.one L.length (prK L) (hW p L) (t:Int)) s0=S45.one L.length (prK L) (hW p L) (t:Int) s x:=by rw[ex,gR,es];rfl
   rw[eS];clear eS ex es xr hx hd o x1 x3;obtain⟨row,tab⟩:=x;have rl:row.length<=40:=rl;have tl:tab.length<=64:=tl;have ti:∀ws∈tab,ws∈cX p:=ti;have kd:∀ {X:Cx}{sd:List Slot}{e:Expr},PEd X sd e (.val (.tup<|tab.map bK))->PEd X sd e (.val ((hkN P w).dat<|tbK tab)):=λh=>PEd.cast h (by rw[show(hkN P w).dat (tbK tab)=D.tup ((tbK tab).map tD) from rfl,aLr])
   have inj:decide (tab∈s.1.map λx=>x.2.2)=true↔tbK tab∈ksE s.1:=by
    rw[decide_eq_true_iff]
    constructor
    ·intro h;obtain⟨e,e1,e2⟩:=aX.mp h;exact aX.mpr ⟨e,e1,by rw[e2]⟩
    ·intro h;obtain⟨e,e1,e2⟩:=aX.mp h;exact aX.mpr ⟨e,e1,rB e2⟩
   refine⟨[.val<|cQ p,.val<|lK L,.val<|.int 500,.val<|.lst (L.map<|mgD P w K p),.val (.tup<|(cX p).map bK),oLy K l3 (t:Int) (lyT s) kvs ls,oG (hkN P w) K l4 (ksE s.1)<|s.1.map λ_=>.bl true,.own l7<|cnD p L t,.val<|.int (t:Int),.val (.tup<|tab.map bK),.un,.un],pgN 9, ?_⟩;refine bE<|gK (k:= !decide (tab∈s.1.map λx=>x.2.2)&&decide (((ksE s.1).length:Int)<=500)) (PWd.pt<|aHC (k:= !decide (tab∈s.1.map λx=>x.2.2)) (j:=decide<|((ksE s.1).length:Int)<=500) (aAk (hk:=hkN P w) (k:=tbK tab) inj hu (kd<|pdv 9) (yK 6 rfl<|pv 6)) λ_=>aEz (mM (g:=λi j=>decide<|i<=j) aGr (ln rfl) (pdv 2)<|jK _)) (λh=> ?_) λh=> ?_
   ·rw[bG] at h;have n1:tab∉s.1.map λx=>x.2.2:=by simpa using h.1
    have n2:s.1.length<=500:=by have:=of_decide_eq_true h.2;unfold ksE at this;rw[aB] at this;omega
    have nk:tbK tab∉ksE s.1:=λz=>n1 (of_decide_eq_true<|inj.mpr z)
    have e1:S45.one L.length (prK L) (hW p L) (t:Int) s (row,tab)=(s.1++[((t:Int),row,tab)],S45.put (prK L) (hW p L) t row tab L.length s.2):=by unfold S45.one;rw[if_pos ⟨n1,n2⟩]
    rw[e1];clear e1 inj h;refine aI<|tH (hk:=hkN P w) (k:=tbK tab) (d:=.bl true) 6 hu rfl (pv 6) aGe (kd<|pdv 9) nk (by rw[aB];omega) ?_
    have ek:ksE s.1++[tbK tab]=ksE (s.1++[((t:Int),row,tab)]):=by unfold ksE;rw[aU];rfl
    have ev:(s.1.map λ_=>D.bl true)++[D.bl true]=(s.1++[((t:Int),row,tab)]).map λ_=>D.bl true:=by rw[aU];rfl
    rw[ek,ev];refine bE<|iE (ds:=fZ 0 L.length) (λm sd=>∃kvs' ls,kvs'.length<=kvs.length+m/\sd=[.val<|cQ p,.val<|lK L,.val<|.int 500,.val<|.lst (L.map<|mgD P w K p),.val (.tup<|(cX p).map bK),oLy K l3 (t:Int) (λj=>(S45.put (prK L) (hW p L) t row tab m s.2 j).map tlD) kvs' ls,oG (hkN P w) K l4 (ksE<|s.1++[((t:Int),row,tab)])<|(s.1++[((t:Int),row,tab)]).map λ_=>.bl true,.own l7<|cnD p L t,.val<|.int (t:Int),.val (.tup<|tab.map bK),.un,.un]) (gW (n:=L.length) rfl zrange (PEd.ic (pM rfl zlen (PEd.bor<|pdv 1))<|by rw[aB])<|by omega) ⟨_,Le.refl _,kvs,ls,aO _,rfl⟩ (λm d sdm hd hm=> ?_) λsdn hn=> ?_
    ·obtain⟨kvs',ls,hk',rfl⟩:=hm;obtain⟨ml,rfl⟩:=gQ hd;rw[mX];have pl1:=S45.put_len (pr:=prK L) (beh:=hW p L) (t:Int) row tab s.2 m;have b1:=b<|(t:Int)+prK L m;have b2:L.length*s.1.length<=8*s.1.length:=jT _ l8;have p1:=pl1<|(t:Int)+prK L m;have gm:=hpr m ml;have sk1:(L.map skD)[m]? =some (skD<|L.getD m AR):=aJP ml
     have mv1:(L.map<|mgD P w K p)[m]? =some (mgD P w K p<|L.getD m AR):=by rw[bB];simp[cP,ml]
     have eB:hW p L m tab=tab.map (onQ p (L.getD m AR).1):=rfl;have eP:prK L m=(L.getD m AR).2:=rfl
     have eU:(λj=>(S45.put (prK L) (hW p L) t row tab (m+1) s.2 j).map tlD)=jX (λj=>(S45.put (prK L) (hW p L) t row tab m s.2 j).map tlD) ((t:Int)+prK L m) ((S45.put (prK L) (hW p L) t row tab m s.2<|(t:Int)+prK L m).map tlD++[tlD (row++[m],hW p L m tab)]):=funext λj=>by
      show(if j=(t:Int)+prK L m then S45.put (prK L) (hW p L) t row tab m s.2 j++[(row++[m],hW p L m tab)] else S45.put (prK L) (hW p L) t row tab m s.2 j).map tlD=if j=(t:Int)+prK L m then _ else _
      split
      ·next z=>rw[z,aU];rfl
      ·rfl
     rw[eU];generalize S45.put (prK L) (hW p L) t row tab m s.2=ly at p1;generalize L.getD m AR=sk at sk1 mv1 eB eP;rw[eB];refine⟨[.val<|cQ p,.val<|lK L,.val<|.int 500,.val<|.lst (L.map<|mgD P w K p),.val (.tup<|(cX p).map bK),oLy K l3 (t:Int) (λj=>(ly j).map tlD) kvs' ls,oG (hkN P w) K l4 (ksE<|s.1++[((t:Int),row,tab)])<|(s.1++[((t:Int),row,tab)]).map λ_=>.bl true,.own l7<|cnD p L t,.val<|.int (t:Int),.val (.tup<|tab.map bK),.val<|.int (m:Int),.un],pgN 10, ?_⟩
     have ec:((tab.map bK).filter λ_=>true).map (λd=>bK (onQ p sk.1<|oE d))=(tab.map<|onQ p sk.1).map bK:=by
      rw[dH.mpr λ_ _=>rfl,bH,bH];refine cA λws _=> ?_
      show bK (onQ p sk.1 (oE<|bK ws))=_;rw[lV];rfl
     refine aI<|jE (d:=.tup<|(tab.map<|onQ p sk.1).map bK) 11 (kT rfl ztuple (PEd.bor<|PEd.val (PEd.cast (kE (ds:=tab.map bK) (N:=nl7) (M:=nl8) (cap:=[none,some 3,some 10]) (sc:=bF aKE) (Tb:=λd=>[.val d,.val<|.lst (L.map<|mgD P w K p),.val<|.int (m:Int)]) (λ_=>true) (λd=>bK (onQ p sk.1<|oE d)) (sG<|pdv 9) (by rw[aB];omega) rfl (by decide+kernel) rfl (by decide+kernel) rfl (λcl C fp s H d hd=>pgN 0) (λd hd=>⟨.inl rfl,.inr rfl,.inr rfl,trivial⟩) (λcl C fp s H d hd=>.inl ⟨rfl,rfl⟩) λcl C2 fp s H d hd _=> ?_)<|by rw[ec]))) ?_
     ·obtain⟨ws,hw,rfl⟩:=yX hd;obtain⟨i,hi⟩:=cZ<|ti ws hw;rw[lV];exact aGB (hk:=hkT P w) (k:=inK ws) (n:=i) (d:=bK<|onQ p sk.1 ws) hu (aHH<|qO (n:=m) (PEd.bor<|pdv 1) (pdv 2) mv1 λ_ _=>rfl) (PEd.cast (pdv 0)<|by rw[show(hkT P w).dat (inK ws)=tD (inK ws) from rfl,aGj]) (by rw[bB,hi];rfl) (by rw[bB,hi];rfl) λ_ _=>rfl
     refine bE<|aCm (k:=(t:Int)+prK L m) (d:=tlD (row++[m],tab.map<|onQ p sk.1)) 5 rfl (pv 5) (fV iJ (pdv 8)<|PEd.ic (pdx (n:=1) (ds:=[sqD sk.1,.int sk.2]) (d:=.int sk.2)<|qO (n:=m) (PEd.bor<|pdv 1) (pdv 10) sk1 λ_ _=>rfl) eP.symm) (λz=>mR 11 rfl<|pv 11) (by omega) (by omega) ?_ λkvs2 ls2 hk2=> ?_
     ·show((ly<|(t:Int)+prK L m).map tlD).length<=100000;rw[aB];omega
     ·exact⟨[.val<|cQ p,.val<|lK L,.val<|.int 500,.val<|.lst (L.map<|mgD P w K p),.val (.tup<|(cX p).map bK),oLy K l3 (t:Int) (jX (λj=>(ly j).map tlD) ((t:Int)+prK L m)<|(ly<|(t:Int)+prK L m).map tlD++[tlD (row++[m],tab.map<|onQ p sk.1)]) kvs2 ls2,oG (hkN P w) K l4 (ksE<|s.1++[((t:Int),row,tab)])<|(s.1++[((t:Int),row,tab)]).map λ_=>.bl true,.own l7<|cnD p L t,.val<|.int (t:Int),.val (.tup<|tab.map bK),.un,.un],⟨.inr rfl,.inr rfl,.inr rfl,.inr rfl,.inr rfl,.inr rfl,.inr rfl,.inr rfl,.inr rfl,.inr rfl,.inl rfl,.inl rfl,trivial⟩,kvs2,ls2,by omega,rfl⟩
    ·obtain⟨kvs',ls,hk',rfl⟩:=hn;rw[fQ] at hk' ⊢;exact⟨[.val<|cQ p,.val<|lK L,.val<|.int 500,.val<|.lst (L.map<|mgD P w K p),.val (.tup<|(cX p).map bK),oLy K l3 (t:Int) (lyT (s.1++[((t:Int),row,tab)],S45.put (prK L) (hW p L) t row tab L.length s.2)) kvs' ls,oG (hkN P w) K l4 (ksE<|s.1++[((t:Int),row,tab)])<|(s.1++[((t:Int),row,tab)]).map λ_=>.bl true,.own l7<|cnD p L t,.val<|.int (t:Int),.un,.un,.un],⟨.inr rfl,.inr rfl,.inr rfl,.inr rfl,.inr rfl,.inr rfl,.inr rfl,.inr rfl,.inr rfl,.inl rfl,.inr rfl,.inr rfl,trivial⟩,kvs',ls,_,rfl,by show _<=1+8*(s.1++[_]).length;rw[aM];show _<=1+8*(s.1.length+1);omega,rfl⟩
   ·have e1:S45.one L.length (prK L) (hW p L) (t:Int) s (row,tab)=s:=by
     unfold S45.one;refine if_neg λz=> ?_
     have:(!decide (tab∈s.1.map λx=>x.2.2)&&decide (((ksE s.1).length:Int)<=500))=true:=by rw[bG];refine⟨by simpa using z.1,decide_eq_true ?_⟩;unfold ksE;rw[aB];have:=z.2;omega
     rw[this] at h;cases h
    rw[e1];exact cM ⟨[.val<|cQ p,.val<|lK L,.val<|.int 500,.val<|.lst (L.map<|mgD P w K p),.val (.tup<|(cX p).map bK),oLy K l3 (t:Int) (lyT s) kvs ls,oG (hkN P w) K l4 (ksE s.1)<|s.1.map λ_=>.bl true,.own l7<|cnD p L t,.val<|.int (t:Int),.un,.un,.un],⟨.inr rfl,.inr rfl,.inr rfl,.inr rfl,.inr rfl,.inr rfl,.inr rfl,.inr rfl,.inr rfl,.inl rfl,.inr rfl,.inr rfl,trivial⟩,kvs,ls,s,rfl,hkv,rfl⟩
  ·obtain⟨kvs,ls,s,es,hkv,rfl⟩:=hn;have e1:(lyT s0 (t:Int)).length=(s0.2 (t:Int)).length:=by unfold lyT;rw[aB]
   rw[e1,fJ] at es;subst es;rw[aGU,eR'];generalize ((s0.2 (t:Int)).foldl (S45.one L.length (prK L) (hW p L) (t:Int)) s0)=s at hkv;refine bE<|lR (d:=.int (s.1.length:Int)) 7 rfl (pv 7) (PEd.ic (ln rfl)<|by unfold ksE;rw[aB]) (by rw[cl];omega) ⟨[.val<|cQ p,.val<|lK L,.val<|.int 500,.val<|.lst (L.map<|mgD P w K p),.val (.tup<|(cX p).map bK),oLy K l3 (t:Int) (lyT s) kvs ls,oG (hkN P w) K l4 (ksE s.1)<|s.1.map λ_=>.bl true,.own l7<|cnD p L t++[.int (s.1.length:Int)],.un,.un,.un,.un],⟨.inr rfl,.inr rfl,.inr rfl,.inr rfl,.inr rfl,.inr rfl,.inr rfl,.inr rfl,.inl rfl,.inr rfl,.inr rfl,.inr rfl,trivial⟩,(t:Int),kvs,ls,by omega,hkv,rfl⟩
 ·obtain⟨q,kvs,ls,hq,hkv,rfl⟩:=hn;rw[fQ];exact bE<|jV 7 rfl (pv 7) rfl
noncomputable def rA:D->D
 |.tup [a,_]=>a
 |d=>d
noncomputable def aLF:D->List Slot
 |.tup [a,b]=>[.val a,.val b]
 |_=>[.un,.un]
abbrev nl9:List Str:=["_law_script","_law_size","_law_kit","_law_dear","_law_k","_law_cell","_law_step"]
theorem aGA(F:FI K mg "_law_great_kit" sGk)(zrange:mg "range"=none)(zint:mg "int"=none)(GC:bU P w K mg base "_law_cell_at" 1 2 aGb)(GM:bU P w K mg base "_law_mixed" 1 2 CMx)(GD:bU P w K mg base "_law_drawn" 2 2 aIM):bU P w K mg base "_law_great_kit" 3 2 aIV:=by
 have nd3:(["_law_one","_law_price"]:List Str).Nodup:=by decide+kernel
 refine dS (N:=nl9) (ps:=["_law_script","_law_size"]) (k:=2) F λf nd cdv A outer s H E hr ds r hl c=> ?_
 obtain⟨p,ns,hp,rfl,rfl⟩:=c;have hu:=uN hr 4;obtain⟨m5,m8,mg'⟩:=aFe ns;have q0:=dX (mxS (ns.getD 1 0) 7) (show(4:Int)≠0 by decide);have mx1:∀ {sd:List Slot}{p1 p2 p3 p4 p5 p6 p7:Pos}{j1 j2:Nat} (k:Nat),k<=400->sd[0]? =some (.val<|.scr ns)->PEd (jL CX0 P w K mg base nl9 "_law_great_kit" (bF sGk) f cdv A outer s H E).nox sd (.Call (.Name "_law_mixed" p1) [.Call (.Name "_law_cell_at" p2) [.Name "_law_script" p3, .Constant (.int 1) j1 p4] [] p5, .Constant (.int (k:Int)) j2 p6] [] p7) (.val (.int<|mxS (ns.getD 1 0) k)):=λk hk hs=>pdc (ds:=[.int<|ns.getD 1 0,.int (k:Int)]) GM hr (aG (pdc (ds:=[.scr ns,.int ((1:Nat):Int)]) GC hr (aG (mR 0 hs<|pv 0)<|aG bW aW) ⟨ns,1,rfl,by omega,rfl⟩)<|aG bW aW) ⟨_,k,rfl,hk,rfl⟩
 refine aI<|qR (ds:=([]:List SK).map skD) 2 (mQ (ds:=[]) aW<|bJ _) λl3=> ?_;refine aI<|jE (d:=.bl (decide<|mxS (ns.getD 1 0) 6%5=1)) 3 (aFN (dP gE (mx1 6 (by decide) rfl) bW<|by decide) bW) ?_;unfold gkL;generalize decide (mxS (ns.getD 1 0) 6%5=1)=dr;generalize gkM ns=M at m5 m8 mg';refine aI<|iE (ds:=fZ 0 M) (λt sd=>sd=[.val<|.scr ns,.val<|cQ p,.own l3<|(gkN p ns dr t).map skD,.val<|.bl dr,.un,.un,.un]) (gW (n:=M) rfl zrange (sC (i:=mxS (ns.getD 1 0) 7%4) (ds:=[.int 5,.int 6,.int 5,.int 8]) (PEd.bor (PEd.val<|pdL (ds:=[.int 5,.int 6,.int 5,.int 8]) (aG bW<|aG bW (aG bW<|aG bW aW)))) (dP gE (mx1 7 (by decide) rfl) bW<|by decide) q0 mg' λ_ _=>rfl)<|by omega) ⟨_,Le.refl _,rfl⟩ (λt d sdt hd ht=> ?_) λsdn hn=> ?_
 ·subst ht;obtain⟨ht,rfl⟩:=gQ hd;rw[mX];refine⟨[.val<|.scr ns,.val<|cQ p,.own l3<|(gkN p ns dr t).map skD,.val<|.bl dr,.val<|.int (t:Int),.un,.un],pgN 4, ?_⟩;have ll:(gkN p ns dr t).length<=8:=cC (aAZ hp ns dr t).1 (by omega);have eN:gkN p ns dr (t+1)=if sS (gkN p ns dr t) (drQ p<|ns.getD (2+t) 0+(t:Int)) then gkN p ns dr t else gkN p ns dr t++[(drQ p<|ns.getD (2+t) 0+(t:Int),prG dr<|ns.getD (2+t) 0+(t:Int))]:=rfl
  rw[eN];refine aI<|jE (d:=.int<|ns.getD (2+t) 0+(t:Int)) 5 (fV iJ (pdc (ds:=[.scr ns,.int ((2+t:Nat):Int)]) GC hr (aG (pdv 0)<|aG (PEd.ic (fV iJ bW<|pdv 4)<|by omega) aW) ⟨ns,2+t,rfl,by omega,rfl⟩)<|pdv 4) ?_;generalize ns.getD (2+t) 0+(t:Int)=x;generalize gkN p ns dr t=L at *;refine aI<|jE (d:=sqD<|drQ p x) 6 (pdc (ds:=[cQ p,.int x]) GD hr (aG (pdv 1)<|aG (pdv 5) aW) ⟨p,x,hp,rfl,rfl⟩) ?_;generalize drQ p x=q
  have plc:plL ((L.map skD).map rA)=true/\iY ((L.map skD).map rA)<=1:=by rw[bH];exact⟨aBP (λs:SK=>rA<|skD s) (λs=>aIT s.1) _,yV (λs:SK=>rA<|skD s) 1 (λs=>aDm<|aJL s.1) _⟩
  have ef:((L.map skD).filter λ_=>true).map rA=(L.map skD).map rA:=by rw[dH.mpr λ_ _=>rfl]
  have es:((L.map skD).map rA).any (λz=>deq z<|sqD q)=sS L q:=by unfold sS;rw[bH];rfl
  refine bE<|gK (k:= !sS L q) (PTd.lend 2 rfl (aIB rfl) (PTd.cast (aDZ (pdv 6) (PEd.val (PEd.cast (kE (ds:=L.map skD) (N:=["_law_one","_law_price"]) (M:=nl9) (cap:=[none,none]) (sc:=bF sGk) (Tb:=aLF) (λ_=>true) rA (iC<|pdv 2) (by rw[aB];omega) rfl (by decide+kernel) rfl (by decide+kernel) rfl (λcl C fp s H d hd=> ?_) (λd hd=> ?_) (λcl C fp s H d hd=>.inl ⟨rfl,rfl⟩) λcl C fp s H d hd _=> ?_)<|by rw[ef])) (aIT q) plc.1<|by have:=plc.2;show(A.deeper<|As "_law_great_kit" (bF sGk) s.heap.objs.size f cdv).units+1+_<AQ;omega)<|by rw[es])) (λh=> ?_) λh=> ?_
  ·obtain⟨s,_,rfl⟩:=aX.mp hd;exact nH (js:=[0,1]) rfl (fW (pgn 0)<|fW (pgn 1) nF) rfl rfl
  ·obtain⟨s,_,rfl⟩:=aX.mp hd;exact⟨.inl rfl,.inl rfl,trivial⟩
  ·obtain⟨s,_,rfl⟩:=aX.mp hd;exact(pdv 0)
  ·have h':sS L q=false:=by simpa using h
   rw[h'];have ep:([.int<|1+mxS x 5%2,.int 9]:List D)[(if dr=true then(1:Int) else 0).toNat]? =some (.int<|prG dr x):=by cases dr<;>rfl
   have e0:(0:Int)<=if dr=true then(1:Int) else 0:=by split<;>decide
   refine bE<|lR (d:=skD (q,prG dr x)) 2 rfl (pv 2) (pdT (ds:=[sqD q,.int<|prG dr x]) (aG (pdv 6)<|aG (sC (i:=if dr=true then(1:Int) else 0) (ds:=[.int<|1+mxS x 5%2,.int 9]) (PEd.bor (PEd.val<|pdL (ds:=[.int<|1+mxS x 5%2,.int 9]) (aG (fV iJ bW (dP gE (pdc (ds:=[.int x,.int ((5:Nat):Int)]) GM hr (aG (pdv 5)<|aG bW aW) ⟨_,5,rfl,by omega,rfl⟩) bW<|by decide))<|aG bW aW))) (aCd rfl zint<|pdv 3) e0 ep λ_ _=>rfl) aW)) (by rw[aB];omega) ⟨[.val<|.scr ns,.val<|cQ p,.own l3<|(L++[(q,prG dr x)]).map skD,.val<|.bl dr,.un,.un,.un],⟨.inr rfl,.inr rfl,.inr ?_,.inr rfl,.inl rfl,.inl rfl,.inl rfl,trivial⟩,rfl⟩;rw[aU];rfl
  ·have h':sS L q=true:=by simpa using h
   rw[h'];exact cM<|nxt (b:=[.val<|.scr ns,.val<|cQ p,.own l3<|L.map skD,.val<|.bl dr,.un,.un,.un]) rfl
 ·subst hn;rw[fQ];exact bE<|jV 2 rfl (pv 2) rfl
theorem aEq{CN:BF}(F:FI K mg "_law_refused" aLY)(zisinstance:mg "isinstance"=none)(xk:aKD K mg CN)(GB:bU P w K mg base "book_of" 6 3 aGm/\jS P w K mg base "book_of" 6 3 xT (.ref CN) [] []):bU P w K mg base "_law_refused" 7 3 aFh:=by
 refine dS (N:=["_law_size","_law_kit","_law_bound","_law_refused_here","e"]) (ps:=["_law_size","_law_kit","_law_bound"]) (k:=6) F λf nd cdv A outer s H E hr ds r hl c=> ?_
 obtain⟨p,L,b,hp,S,dn,g,rfl,rfl⟩:=c;obtain⟨CL,k0⟩:=xk.le;obtain⟨C1,k1⟩:=xk.nc;obtain⟨C2,k2⟩:=xk.nt;obtain⟨C3,k3⟩:=xk.nd;obtain⟨C4,k4⟩:=xk.ns;refine aI<|jE (d:=.bl false) 3 aGe ?_;refine aI<|aHj (cls:=.ref CN) 4 nd rfl rfl rfl xk.nw.1 xk.nw.2 (λξ pn F0 tk=> ?_) λa oe pn hp' hc=> ?_
 ·exact bE<|aCk (aEQ (ds:=[cQ p,lK L,.int b]) (dds:=[]) GB.2 (aCD rfl) hr rfl (aG (pdv 0) (aG (pdv 1)<|aG (pdv 2) aW)) (λ_=>RepL.nil) ⟨p,L,b,hp,S,dn,g,rfl⟩ rfl<|Takes.o tk)
 ·refine aI<|jE (d:=.bl true) 3 (aFM (k:=true) (j:=true) (aEb 4 hp' hc xk.xc rfl zisinstance rfl k0.1 k0.2 rfl<|pv 4) λ_=>aFo (aDh 4 hp' hc xk.xc rfl zisinstance rfl xk.ve.1 aEv xk.ve.2 rfl<|pv 4)) ?_;refine bE<|jE (d:=.bl true) 3 (aFM (k:=true) (j:=true) (pdv 3) λ_=>aFo<|aKc (k:=false) (aDi 4 hp' hc xk.xc rfl zisinstance rfl k1.1 rfl k2.1 rfl k3.1 rfl k4.1 (aEx k1.2 k2.2 k3.2 k4.2) rfl<|pv 4)) ?_;exact bE (nQ<|pdv 3)
noncomputable def aMd:D->Nat
 |.int i=>i.toNat
 |_=>0
theorem aGX{α:Type}(q:List α)(a:α):atI (q++[a]) (-1)=some a:=by
 have e:ixN (q++[a]).length (-1)=some q.length:=by unfold ixN;rw[if_neg<|by decide,aM,if_pos<|by show -((q.length+1:Nat):Int)<= -1;omega];refine congrArg some ?_;show(-1+((q.length+1:Nat):Int)).toNat=_;omega
 unfold atI;rw[e];simp
abbrev nl10:List Str:=["_law_script","_law_size","_law_kit","_law_counts_here","_law_few","_law_bound","_law_found"]
theorem aKs{CN:BF}(F:Fun K "law" "law" vA f fd)(zint:mg "int"=none)(zrange:mg "range"=none)(zlen:mg "len"=none)(zisinstance:mg "isinstance"=none)(zlist:mg "list"=none)(GC:bU P w K mg base "_law_cell_at" 1 2 aGb)(GM:bU P w K mg base "_law_mixed" 1 2 CMx)(GK:bU P w K mg base "_law_great_kit" 3 2 aIV)(GN:bU P w K mg base "_law_counts" 4 3 aFu)(GB:bU P w K mg base "book_of" 6 3 aGm/\jS P w K mg base "book_of" 6 3 xT (.ref CN) [] [])(GR:bU P w K mg base "_law_refused" 7 3 aFh):FnOk P w K mg base CX0 8 f fd ["_law_script"] (spC K 1 aKH):=by
 have nd:nl10.Nodup:=by decide+kernel
 have nd2:(["_law_price","_law_counts_here"]:List Str).Nodup:=by decide+kernel
 refine aFH (N:=nl10) (ps:=["_law_script"]) (k:=7) F ⟨rfl,rfl,rfl,nd,rfl,by decide+kernel,by decide+kernel⟩ λcdv A outer s H E hr ds r hl c=> ?_
 obtain⟨ns,rfl,hns,rfl⟩:=c;have hr6:=hr.mono (show 6<=7 by decide);have hu:=uN hr 6;have hp:=aJD ns;obtain⟨S,dn⟩:=aKj hp ns
 have eS:([cQ (1,3),cQ (3,1)]:List D)[(if decide (mxS (ns.getD 0 0) 1%4=1)=true then(1:Int) else 0).toNat]? =some (cQ<|gkP ns):=by
  unfold gkP
  by_cases h3:mxS (ns.getD 0 0) 1%4=1
  ·rw[if_pos h3,if_pos<|decide_eq_true h3];rfl
  ·rw[if_neg h3,if_neg<|by simpa using h3];rfl
 refine aI<|jE (d:=cQ<|gkP ns) 1 (sC (i:=if decide (mxS (ns.getD 0 0) 1%4=1)=true then(1:Int) else 0) (ds:=[cQ (1,3),cQ (3,1)]) (PEd.bor (PEd.val<|pdL (ds:=[cQ (1,3),cQ (3,1)]) (aG (pdT (ds:=[.int 1,.int 3]) (aG bW<|aG bW aW))<|aG (pdT (ds:=[.int 3,.int 1]) (aG bW<|aG bW aW)) aW))) (aCd rfl zint<|aFN (dP gE (pdc (ds:=[.int<|ns.getD 0 0,.int ((1:Nat):Int)]) GM hr (aG (pdc (ds:=[.scr ns,.int ((0:Nat):Int)]) GC hr (aG (pdv 0)<|aG bW aW) ⟨ns,0,rfl,by omega,rfl⟩)<|aG bW aW) ⟨_,1,rfl,by omega,rfl⟩) bW<|by decide) bW) (by split<;>decide) eS λ_ _=>rfl) ?_;refine aI<|qR (ds:=(gkL (gkP ns) ns).map skD) 2 (pdc (ds:=[.scr ns,cQ<|gkP ns]) GK hr (aG (pdv 0)<|aG (pdv 1) aW) ⟨_,ns,hp,rfl,rfl⟩) λl2=>iS 2 rfl ?_;clear eS;generalize gkL (gkP ns) ns=L at S dn;generalize gkP ns=p at hp S;obtain⟨b,q,eQ,b40,few,many⟩:=aLd p L
 have cn:∀t,t<41->(cnD p L 41)[t]? =some (.int ((iT p L<|t+1).1.length:Int)):=λt ht=>by unfold cnD;rw[bB,oM ht];rfl
 have cl:(cnD p L 41).length=41:=by unfold cnD;rw[aB,eY]
 obtain⟨Ft,bl⟩:=(aEZ hp S (b:=b)<|by omega).1 few;have gr:∀t:Nat,b<t->t<=40->Gr p L (t:Int):=λt h1 h2=>⟨by omega,(aEZ hp S (b:=t)<|by omega).2<|many t h1 h2⟩
 refine aI<|qR (ds:=cnD p L 41) 3 (pdc (ds:=[cQ p,lK L,.int 500]) GN hr (aG (pdv 1) (aG (pdv 2)<|aG bW aW)) ⟨p,L,hp,S,rfl,rfl⟩) λl3=>iS 3 rfl ?_
 have ec:((fZ 0 41).filter λd=>decide<|(iT p L<|aMd d+1).1.length<=500).map id=(q++[b]).map λ(t:Nat)=>D.int (t:Int):=by
  rw[lB,<-eQ];unfold fZ fwQ;have e0:(λ(k:Nat)=>D.int<|0+(k:Int))=λ(k:Nat)=>D.int (k:Int):=funext λk=>by rw[mX]
  rw[e0,List.filter_map];refine congrArg _<|aFP λk _=> ?_;show decide ((iT p L<|(k:Int).toNat+1).1.length<=500)=_;rw[dM]
 refine aI<|aDH (ds:=fZ 0 41) 4 (N:=["_law_price","_law_counts_here"]) (M:=nl10) (cap:=[none,some 3]) (sc:=bF vA) (Tb:=λd=>[.val d,.val (.lst<|cnD p L 41)]) (λd=>decide<|(iT p L<|aMd d+1).1.length<=500) id rfl nd rfl rfl rfl (gW (n:=41) rfl zrange bW<|by decide) (eI rfl) rfl (by decide+kernel) rfl (by decide+kernel) rfl (λcl C fp s H d hd=>pgN 0) (λd hd=>⟨.inl rfl,.inr rfl,trivial⟩) (λcl C fp s H d hd=>.inr ⟨_,rfl, ?_⟩) (λcl C2 fp s H d hd _=>(pdv 0)) λl4=>iS 4 rfl ?_
 ·obtain⟨t,ht⟩:=cZ hd;obtain⟨tl,rfl⟩:=gQ ht;rw[mX];refine PTd.cast (mM aGr (qO (n:=t) (PEd.bor<|pdv 1) (pdv 0) (cn t tl) λ_ _=>rfl) bW<|jK _) ?_;show decide (((iT p L<|t+1).1.length:Int)<=500)=decide ((iT p L<|(t:Int).toNat+1).1.length<=500);rw[dM];exact decide_eq_decide.mpr<|by omega
 rw[ec];refine aI<|jE (d:=.int (b:Int)) 5 (aGw (i:= -1) (PEd.bor<|pdv 4) (aJc bW) (by rw[aU];exact aGX _ _) λ_ _=>rfl) ?_;have bk:∀ {sd:List Slot}{p1 p2 p3 p4 p5:Pos},sd[1]? =some (.val<|cQ p)->sd[2]? =some (.val<|lK L)->sd[5]? =some (.val<|.int (b:Int))->PEd (jL CX0 P w K mg base nl10 "law" (bF vA) f cdv A outer s H E).nox sd (.Call (.Name "book_of" p1) [.Name "_law_size" p2, .Name "_law_kit" p3, .Name "_law_bound" p4] [] p5) (.own<|(bkQ p L b).map enD):=λh1 h2 h5=>pdc (ds:=[cQ p,lK L,.int (b:Int)]) GB.1 hr6 (aG (mR 1 h1<|pv 1) (aG (mR 2 h2<|pv 2)<|aG (mR 5 h5<|pv 5) aW)) ⟨p,L,b,hp,S,dn,Ft,rfl,rfl⟩
 refine aI<|qR (ds:=(bkQ p L b).map enD) 6 (bk rfl rfl rfl) λl6=>iS 6 rfl ?_;have c1:=cn b (by omega);generalize bkQ p L b=B at bl bk;refine psdF (PWd.pt<|qU (k:=false) (j:=false) (xK (k:=true) (xB<|PEd.cast (aHM rfl zisinstance rfl zlist PyProof.Rows.boot_list (pdv 6) (λ_=>by simp)<|aEf _ _) rfl)) λ_=>rZ (PTd.cast (aHU (pM rfl zlen (PEd.bor<|pdv 6))<|qO (n:=b) (PEd.bor<|pdv 3) (pdv 5) c1 λ_ _=>rfl)<|by rw[aB,bl];simp)) ?_;refine aGu (K:=PSd _ [.val<|.scr ns,.val<|cQ p,.val<|lK L,.val (.lst<|cnD p L 41),.val (.lst<|(q++[b]).map λ(t:Nat)=>D.int (t:Int)),.val<|.int (b:Int),.val (.lst<|B.map enD)] _ _) (λkey=>aI<|gK (k:=decide<|(b:Int)<40) (mM aIN (pdv 5) bW<|jK _) (λh=> ?_) λh=>cM key) ?_
 ·have h4:b<40:=by have:=of_decide_eq_true h;omega
  exact bE (fB (k:=false) (PWd.pt (qU (k:=false) (j:=false) (xK (k:=true) (xB<|pdc (ds:=[cQ p,lK L,.int ((b+1:Nat):Int)]) GR hr (aG (pdv 1) (aG (pdv 2)<|aG (PEd.ic (fV iJ (pdv 5) bW)<|by omega) aW)) ⟨p,L,_,hp,S,dn,gr (b+1) (by omega)<|by omega,rfl,rfl⟩)) λ_=>rZ<|xK (k:=true) (xB<|pdc (ds:=[cQ p,lK L,.int ((40:Nat):Int)]) GR hr (aG (pdv 1) (aG (pdv 2)<|aG bW aW)) ⟨p,L,_,hp,S,dn,gr 40 (by omega)<|by omega,rfl,rfl⟩))) rfl<|cM key)
 have pB:plL (B.map enD)=true:=zU enD aGx B;have dB:iY (B.map enD)<=3:=wC enD 3 aDT B;exact bE<|dR (PEd.cast (aJH (ra:=.val (.lst<|B.map enD)) (rb:=.val (.lst<|B.map enD)) (PEd.val<|bk rfl rfl rfl) (pdv 6) trivial trivial (.inr ⟨rfl,rfl⟩) pB pB (aLA hu<|by show iY (B.map enD)+1+1<=6;omega))<|by show DL.R.val (.bl (kB (B.map enD)<|B.map enD))=_;rw[nE _ pB]) trivial rfl
theorem aAc{t1 t2 t3:Tok}:Vals [V.str "not",V.str "up",V.str "down"] (#[Value.str "not" t1,Value.str "up" t2,Value.str "down" t3]:Array BD).toList:=.cons ⟨_,rfl⟩ (.cons ⟨_,rfl⟩<|.cons ⟨_,rfl⟩ .nil)
theorem all_mk{h:BH}{fa:BF}(X:K.In h)(G:h.Ns AO mg)(hfa:mg "law"=some (.ref fa))
  {odL anL:Option BF}{slL:Array (Option BD)}{ocL kVL dcL pmL cdL ctL:BD}{fL:BF}{fBY:BF}{dB:Option BF}{t1 t2 t3:Tok}{nB:Nat}{sB:Array (Option BD)}{tmst:Tok}{CN CL:BF}{cdXc:ClassData}{CXo0:BF}{CXo1:BF}{CXo2:BF}{CXo3:BF}
  (aL:fC K AO "law"=some (some<|.ref fL)) (lL:K.lookup fL=some ⟨ocL,odL,.func<|dI "law" "law" (gL vA) (dY vA) (bF vA) .none kVL dcL pmL anL cdL ctL,slL⟩) (cL:iV K cdL "law"=true) (kL:eO K (.ref fL)=true) (zrange:mg "range"=none) (ztuple:mg "tuple"=none) (zenumerate:mg "enumerate"=none) (zlen:mg "len"=none) (zmin:mg "min"=none) (zlist:mg "list"=none) (zsorted:mg "sorted"=none) (zint:mg "int"=none) (zisinstance:mg "isinstance"=none) (aBY:fC K AO "BY_ITSELF"=some (some<|.ref fBY)) (lBY:K.lookup fBY=some ⟨.type "tuple",dB,.seq #[.str "not" t1,.str "up" t2,.str "down" t3] nB,sB⟩) (amst:fC K AO "MOST_TABLES"=some (some<|.int 500 tmst)) (aCN:fC K AO "TooGreat"=some (some<|.ref CN)) (xa:gA K (.ref CN) "__class__"=some (some<|.builtin "object.__class__")) (xm:aIe K CN (.type "object")=some true) (xs:PySem.W.subIn K (.ref CN) (.type "BaseException")=some true) (xg:gA K (.ref CN) "__getattribute__"=some (some<|.builtin "BaseException.__getattribute__")) (xn:gA K (.ref CN) "__getattr__"=some none) (xcl:PySem.W.clsIn K CN=some cdXc) (xex:kN K CN [.type "ValueError",.type "Exception",.type "BaseException",.type "object"] "ValueError.__new__"=true) (aLE:fC K AO "LeastError"=some (some<|.ref CL)) (xle:bP K (.ref CN) (.ref CL)=some true) (xnw:uS K (.ref CN) (.ref CN)=some true) (nVE:fC K AO "ValueError"=some none) (xve:bP K (.ref CN) (.type "ValueError")=some true) (aX0:fC K AO "NoChange"=some (some<|.ref CXo0)) (xo0:bP K (.ref CN) (.ref CXo0)=some false) (aX1:fC K AO "NoText"=some (some<|.ref CXo1)) (xo1:bP K (.ref CN) (.ref CXo1)=some false) (aX2:fC K AO "NoWindow"=some (some<|.ref CXo2)) (xo2:bP K (.ref CN) (.ref CXo2)=some false) (aX3:fC K AO "NoWish"=some (some<|.ref CXo3)) (xo3:bP K (.ref CN) (.ref CXo3)=some false) (hC:FI K mg "word_count" aFG) (hEa:FI K mg "with_each_word" aAU) (hFi:FI K mg "fillings" aIL) (hNu:FI K mg "number_of" aLP) (hI:FI K mg "word_by_itself" aBz) (hA:FI K mg "word_by_another" aAg) (hN:FI K mg "new_word" zX) (hB:FI K mg "written_box" aAd) (hS:FI K mg "step_on" aCf) (hNo:FI K mg "numbers_of_step" aKO) (hMo:FI K mg "moves_of" aBe) (hNb:FI K mg "numbers_behind" aGd) (hPu:FI K mg "put_longer_rows" aLS) (hFo:FI K mg "found_rows" sFd) (hTf:FI K mg "table_from" aBm) (hBk:FI K mg "book_of" aGl) (hCa:FI K mg "_law_cell_at" aCc) (hMi:FI K mg "_law_mixed" aFj) (hF:FI K mg "_law_fillings" aAY) (hLw:FI K mg "_law_word" aFd) (hAf:FI K mg "_law_after" aLT) (hDr:FI K mg "_law_drawn" aBr) (hLm:FI K mg "_law_moves" aLW) (hCn:FI K mg "_law_counts" aKE) (hGk:FI K mg "_law_great_kit" sGk) (hRf:FI K mg "_law_refused" aLY):
  ∃fd:AX,(∀ (s:BE) (v:BD),BindsTo s fd ⟨[v],[]⟩ [("_law_script",v)])/\∀base:BH,K.In base->base.Ns AO mg->FnOk P w K mg base CX0 8 fa fd ["_law_script"] (spC K 1 aKH):=by
 have e:=hfa.symm.trans<|fF X G aL;cases e;have byself:∃ad,mg "BY_ITSELF"=some (.ref ad)/\∀H:Hp,SqT K H ad [V.str "not",V.str "up",V.str "down"]:=⟨_,fF X G aBY,λH=>.inr ⟨_,_,_,lBY,rfl,rfl,eI rfl,aAc⟩⟩;have mst:∃t,mg "MOST_TABLES"=some (.int 500 t):=⟨_,fF X G amst⟩;have xk:aKD K mg CN:=⟨⟨xa,xm,xs,xg,xn,by rw[xcl];rfl⟩,xex,⟨CL,fF X G aLE,xle⟩,⟨fF X G aCN,xnw⟩,⟨aAR X G nVE,xve⟩,⟨CXo0,fF X G aX0,xo0⟩,⟨CXo1,fF X G aX1,xo1⟩,⟨CXo2,fF X G aX2,xo2⟩,⟨CXo3,fF X G aX3,xo3⟩⟩;have FL:=aFf (st:=vA) lL cL kL;refine⟨dI "law" "law" (gL vA) (dY vA) (bF vA) .none kVL dcL pmL anL cdL ctL,λs v=>.of_eq rfl,λbase _ _=> ?_⟩;have GC:=aDF (P:=P) (w:=w) (base:=base) hC zrange;have GEa:=aGF (P:=P) (w:=w) (base:=base) hEa zrange;have GFi:=aGQ hFi zrange GC GEa;have GNu:=aJT hNu GC;have GI:=aCy (P:=P) (w:=w) (base:=base) hI;have GA:=aAt (P:=P) (w:=w) (base:=base) hA;have GN:=aAy hN byself GC GI GA;have GB:=aAN (P:=P) (w:=w) (base:=base) hB;have GS:=aDg hS GB GN;have GNo:=aDO hNo ztuple GNu GS GFi;have GMo:=aAH hMo GNo;have GNb:=aCu (P:=P) (w:=w) (base:=base) hNb ztuple;have GPu:=aEr hPu zenumerate GNb;have GFo:=aAv hFo zlen zmin zlist zsorted mst xk GPu;have GTf:=aAM (P:=P) (w:=w) (base:=base) hTf ztuple;have GBk:=aCT hBk zlen zrange ztuple GFi GMo GFo GTf;have GCa:=aCl (P:=P) (w:=w) (base:=base) hCa zlen;have GMi:=aEy (P:=P) (w:=w) (base:=base) hMi;have GF:=aAp (P:=P) (w:=w) (base:=base) hF zrange;have GLw:=aGE (P:=P) (w:=w) (base:=base) hLw;have GAf:=aDD hAf GLw;have GDr:=aHv hDr GMi;have GLm:=aEO hLm GF GAf;have GCn:=aEg hCn zrange zlen ztuple GF GLm;have GGk:=aGA hGk zrange zint GCa GMi GDr;have GRf:=aEq hRf zisinstance xk GBk;exact aKs FL zint zrange zlen zisinstance zlist GCa GMi GGk GCn GBk GRf
end K42
open PySem PySem.W PyProof.Rows
namespace PySem.W.Fast
theorem tw10731710252717172192:True:=trivial
theorem tw10962996975137380960:True:=trivial
theorem tw11393092861032308074:True:=trivial
theorem tw1149600797772149110:True:=trivial
theorem tw11553035527513045528:True:=trivial
theorem tw12491523886437514797:True:=trivial
theorem tw13459372852593457409:True:=trivial
theorem tw13683671588444806601:True:=trivial
theorem tw14211052798159681480:True:=trivial
theorem tw14424029357774986320:True:=trivial
theorem tw14509662552197220345:True:=trivial
theorem tw1587191523523990323:True:=trivial
theorem tw16000684390264481843:True:=trivial
theorem tw16449599466359966128:True:=trivial
theorem tw16627906871109859928:True:=trivial
theorem tw16765739863780646794:True:=trivial
theorem tw17364795486015216623:True:=trivial
theorem tw2051683376283031673:True:=trivial
theorem tw2343647253340238678:True:=trivial
theorem tw2565918594262321366:True:=trivial
theorem tw2673763899978507949:True:=trivial
theorem tw2919100518620306815:True:=trivial
theorem tw3087417364568352351:True:=trivial
theorem tw3808579112652322017:True:=trivial
theorem tw4780231871885157950:True:=trivial
theorem tw4972196064309396755:True:=trivial
theorem tw5505310574582030225:True:=trivial
theorem tw6022719675222401037:True:=trivial
theorem tw6038984368830729437:True:=trivial
theorem tw6190200134355364718:True:=trivial
theorem tw6478286508957518068:True:=trivial
theorem tw6942223833681527711:True:=trivial
theorem tw6968791934460077371:True:=trivial
theorem tw7041309505636967060:True:=trivial
theorem tw7183121703795217917:True:=trivial
theorem tw7541247680188769236:True:=trivial
theorem tw769775604851168581:True:=trivial
theorem tw7816961060851421835:True:=trivial
theorem tw8189505605435207679:True:=trivial
theorem tw8204952488896643497:True:=trivial
theorem tw8214050024444895573:True:=trivial
theorem tw8873335622685839396:True:=trivial
theorem tw8876811557855393082:True:=trivial
theorem tw9077278591293457286:True:=trivial
theorem tw9337705982133094675:True:=trivial
theorem tw9439020146498829722:True:=trivial
theorem tw9590486653913044572:True:=trivial
theorem tw9657183244957464005:True:=trivial
theorem tw9986282322872951469:True:=trivial
end PySem.W.Fast
set_option maxRecDepth 100000 in
set_option maxHeartbeats 0 in
theorem PySem.Challenge.cw_leastrow_k42_books_too_great_holds : PySem.Challenge.rw_leastrow_k42_books_too_great.Holds := by
 w_on;o_law;k_head;(case hw=>w_witness2)
 k_fill
 refine DL.walkD (l:=PySem.Challenge.rw_leastrow_k42_books_too_great) (k:=8) (x:="_law_script") rfl rfl ⟨rfl,by decide,by decide,rfl⟩ (λw h Y=>PySem.W.kIn_of Y) ?F
 case F=>
  intro w mg fa h KX G hmg;refine' K42.all_mk KX G hmg ?aL ?lL ?cL ?kL ?zrange ?ztuple ?zenumerate ?zlen ?zmin ?zlist ?zsorted ?zint ?zisinstance ?aBY ?lBY ?amst ?aCN ?xa ?xm ?xs ?xg ?xn ?xcl ?xex ?aLE ?xle ?xnw ?nVE ?xve ?aX0 ?xo0 ?aX1 ?xo1 ?aX2 ?xo2 ?aX3 ?xo3 ..
  (case aL|lL|cL|kL|aBY|lBY|amst|aCN|xa|xm|xs|xg|xn|xcl|aLE|nVE|aX0|aX1|aX2|aX3=>k_is);(case zrange|ztuple|zenumerate|zlen|zmin|zlist|zsorted|zint|zisinstance=>refine' aAR KX G ?a;(case a=>k_is));(case xex=>k_exc);(case xle=>kit_is);(case xnw=>kts_exm);(case xve=>kit_is);(case xo0=>kit_is);(case xo1=>kit_is);(case xo2=>kit_is);(case xo3=>kit_is)
  any_goals (refine' DL.FI.mk KX G ?a ?l ?c ?k;(case a|l|c|k=>k_is))
