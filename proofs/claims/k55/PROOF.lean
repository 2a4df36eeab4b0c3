import PyProof.Rows.All
import Wide.All
import OpenK.AllK
import Wide.FinOn
import Lean
import PyProof.EqAt
import PyProof.EqKinds
import PyProof.TupleCall
import PySem.Challenge.RW_leastrow_k55_least_too_great
set_option Elab.async false
set_option linter.all false
set_option maxRecDepth 100000
open PySem renaming wpAny_bind→AA,wpAny_pure→AB,starEach→AC,Program→AF,model→AH,wpAny→AK,sizeLine→AL,World→AM,cLine→AO,tupleKind→AQ,mainGlobals→AR,compareOp→AS,behindInMarks→AT,wpAny_newObj_type→AV,sysModules→AW,swapsWith→AX,wpAny_mono→AY,wpAny_truthy_bool→AZ,FuncData→Aa,argBest→Ac,wpAny_Call_Name_kw→Ad,bootBuiltins→Ae,backTo→Af,wpAny_holding→Ah,binaryOp→Ai,wpAny_typeNameOfWhole_keyiter→Aj,wpAny_dictEntries→Ak,wpAny_call_entry→Al,tupleKind_room_in1→Am,wpAny_passesOwn→An,foldedSetIterable→Ao,sizeLine_eq→Ap,wpAny_callSpecial?_slot→As,wpAny_rule→At,size_of_entries→Av,codeAny_builtin→Aw,wpAny_notOrdered_dict→Ax,wpAny_pyIter_list→Ay,codeAny_mono→BA,wpAny_forIn_list→BB,wpAny_specialOf→BC,wpAny_ite_split→BD
open PyProof.Rows renaming pendingOf→AD,wpS_bind→AE,Keyed→AG,wpS_pure→AI,arrOf→AJ,wpS_forRange→AU,wpS_mono→Ab,seqObj→Ag,SortKind→Aq,envOfC→Ar,wpS_modify→Au,setPending→Az
open Inhabited renaming default→AN
open List renaming length_map→aA,getElem?_eq_some_iff→aD,mem_singleton→aE,mem_cons_of_mem→aF,mem_cons_self→aG,mem_append_right→aI,mem_of_getElem?→aK,mem_append→aM,length_append→aN,mem_map→aQ,getElem?_map→aS,mem_cons→aU,map_append→aW,size_toArray→aY,mem_append_left→aZ,map_cons→bA,map_map→bB,nodup_append→bE,nodup_cons→bH,mem_singleton_self→bL,range→bM,length_cons→bU,map_congr_left→bW,getD→cB,mem_range→cE,length_take→cH,getElem_of_mem→cI,getElem_map→cJ,append_nil→cM,filter_eq_self→cN,eq_nil_of_length_eq_zero→cQ,all_eq_true→cR,getElem?_append_left→cU,extract_eq_take_drop→cV,getElem?_of_mem→cX,nodup_nil→cZ,eraseIdx_eq_take_drop_succ→dE,getElem?_append_right→dH,mem_flatMap→dI,map_nil→dL,zip_cons_cons→dM,getElem_inj→dR,append_assoc→dW,lookup_cons→eG,take_length→eI,drop_eq_getElem_cons→eJ,take_add_one→eM,getElem?_eq_getElem→eV,eraseIdx_sublist→eZ,any_eq_true→fC,not_mem_nil→fD,replicate→fJ,length_range→fN,length_nil→fO,dropLast_concat_getLast→fP,filterMap_cons→fV,getElem?_set_self→fX,getElem_mem→fZ,mem_filter→gK,find?_cons→gL,mem_of_mem_take→gN,length_pos_iff→gW,take_of_length_le→hV,getElem?_eq_none→iD,perm_append_comm→iE,take_append_drop→iF,foldl_append→iM,getElem?_set_ne→iT,pairwise_append→iU,mem_of_mem_eraseIdx→jE,length_zip→jH,pairwise_cons→jJ,pairwise_singleton→jM,pairwise_map→jT,length_drop→kH,prefix_refl→kI,any_cons→kN,length_eraseIdx→kQ,map_id→kR,getElem?_zip_eq_some→lX,map_take→mJ,ext_getElem→nN,perm_middle→nQ,length_filter_le→pH,length→pQ,getElem?_range→qE,map_drop→rZ,filter_append→sD,find?_eq_none→sE,set_eq_take_append_cons_drop→tE,getElem_take→tO,ext_getElem?→tP,cons→uP,mem_eraseIdx_iff_getElem?→uQ,of_mem_zip→xG,nil_append→xH,countP_eq_length_filter→xI,take_zero→yP
open PySem.W renaming Frag→aB,kitOne→bR,fnOf→dU,kia_one→eC,keepIn→fG,nsIn→fU,mg_of→fW,findIn→gT,kitAny→gU,codeIn→jN,excIn→lS,callWith_K→qD,methodObj→sC,instObj→tZ,lookIn→xC,exmOne→xD
open PySem.Heap renaming get?_push_of_some→aJ,lt_size→aR,get?_push_size→bK,get?_update_other→cO,get?_update_self→gC,size_update→nR,size_push→yR
open Nat renaming le_refl→aP,lt_of_lt_of_le→aV,ne_of_lt→bN,zero_le→bP,le_trans→cG,lt_of_le_of_lt→dC,le_of_lt→dN,lt_irrefl→eD,le_of_ble_eq_true→fB,le_succ→iX,ne_of_gt→jW,lt_succ_self→kO,mul_le_mul_right→kY,lt_succ_of_lt→mK,lt_of_not_le→nV,lt_trans→oP,not_lt→oQ,min_self→oR,pow_le_pow_right→qC,sub_self→tV,zero_add→tW
open Bool renaming and_eq_true→bC,false_ne_true→bF,false_eq_true→bY,eq_iff_iff→gM,eq_false_iff→iN,not_eq_true'→mH,or_eq_true→oU,beq_eq_decide_eq→pI,false_and→pR
open Option renaming some→bS,map_eq_some_iff→eE,isSome_iff_exists→lY
open Array renaming length_toList→bZ,toList_append→dD,getElem?_toList→dG,toList_extract→dJ,perm_iff_toList_perm→gA,size_extract→jI,toList_push→jR,toList_reverse→kP,forIn_toList→sA,toList_inj→tX,toList_map→tY,getElem?_eq_getElem→yQ
open Int renaming emod_lt_of_pos→dO,toNat_natCast→dX,emod_nonneg→eW,ne_of_gt→lM,le_refl→mL,zero_add→oS,toNat→qF,natCast_nonneg→tF
open PySem.F renaming slot_dict_setdefault→gY,plainAttrs_dict→jF,plainAttrs_list→jG,args_tuple_add_2→lU,slot_list_append→lV,type_list_append→lW,entry_tuple_add→mI,slot_tuple_add→nK,slot_dict_get→nX,args_dict_setdefault_3→tG,entry_dict_setdefault→tQ,type_dict_setdefault→uA,excBase_ValueError→xF,args_dict_get_3→yS,plain_list_iadd→yT
open List renaming pairwise_iff_getElem→aAc,getElem?_take_of_lt→aAy,drop_eq_nil_of_le→aCf,set_getElem_self→aCh,reverse_reverse→aEW,mem_of_mem_drop→aEX,take_succ_cons→aFd,reverse_append→aFe,flatMap_append→aFf,mem_filterMap→aGz,getElem_range→aGA,getElem?_drop→aGB,any_eq_false→aHK,take_sublist→aHL,filter_congr→aHM,cons_append→aKf,getLast_mem→aKg,nodup_range→aKh,drop_length→aKi,length_set→aKt,zip_append→aKu,sum_append→aKv,range_succ→aKw,filter_map→aKx,drop_drop→aMU,all_cons→aNi,sum_cons→aNj
open Int renaming fdiv_eq_ediv_of_nonneg→aAd,ne_of_lt→aOX,le_of_eq→aOY,mul_comm→aOZ
open PySem.W renaming cellsFrom_some→aAe,mg_none_of→aCi,specialIn→aFa,kitx_list→aFb,kitx_dict→aFc,plainGet→aFh,mroIn→aKk,isFn→aKA
open PySem.F renaming entry_dict_get→aAf,slot_dict_pop→aAz
open Bool renaming false_or→aBt,true_and→aBu,true_or→aOr
open Array renaming getElem?_eq_none→aBv,getElem?_modify→aCg,toList→aNl
open Nat renaming le_of_eq→aEY,succ_mul→aEZ,succ→aHN,lt_of_succ_lt→aKj,le_add_right→aKy,not_le_of_lt→aKz,add_assoc→aOq,pow_succ→aOW
open Option renaming isSome_map→aFg,getD_some→aGC,none→aNk
open PySem.Heap renaming get?_push_ne→aHO
open PySem renaming Value→BE,Shared→BF,Addr→BG,Around→BH,Heap→BI,Obj→BJ,Stmt→BK,SetTable→BM
open PyProof.Rows renaming SortSt→BL
namespace L2
open PySem PySem.Spec PyProof.Rows
noncomputable abbrev Key:=Sum Int Str
noncomputable def yN:Key->BE->Bool
 |.inl k,v=>Value.isInt k v
 |.inr x,v=>Value.isStrOf x v
noncomputable def keyH(w:AM):Key->Int
 |.inl k=>hashInt k
 |.inr x=>hashStr w x
theorem gG:∀ {k:Key}{v:BE},yN k v=true->(∃i t,k=Sum.inl i/\v=Value.int i t)\/(∃x t,k=Sum.inr x/\v=Value.str x t)
 |.inl i,v,h=>by obtain⟨t,e⟩:=Value.isInt_shape (k:=i) (v:=v) h;exact .inl ⟨i,t,rfl,e⟩
 |.inr x,v,h=>by obtain⟨t,e⟩:=Value.isStrOf_shape (x:=x) (v:=v) h;exact .inr ⟨x,t,rfl,e⟩
theorem aEr(i:Int)(t:Tok):yN (.inl i) (.int i t)=true:=by simp[yN,Value.isInt]
theorem aDK(x:Str)(t:Tok):yN (.inr x) (.str x t)=true:=by simp[yN,Value.isStrOf]
theorem aMR(a b:Int):decide ((Sum.inl a:Key)=Sum.inl b)=(a==b):=by
 by_cases e:a=b
 ·subst e;simp
 ·have h:¬ (Sum.inl a:Key)=Sum.inl b:=λq=>e (Sum.inl.inj q)
  rw[decide_eq_false h];exact(beq_eq_false_iff_ne.mpr e).symm
theorem aMe(a b:Str):decide ((Sum.inr a:Key)=Sum.inr b)=decide (a=b):=by
 by_cases e:a=b
 ·subst e;simp
 ·have h:¬ (Sum.inr a:Key)=Sum.inr b:=λq=>e (Sum.inr.inj q)
  rw[decide_eq_false h,decide_eq_false e]
theorem aMQ(a:Int)(b:Str):decide ((Sum.inl a:Key)=Sum.inr b)=false:=decide_eq_false λq=>nomatch q
theorem aLZ(a:Str)(b:Int):decide ((Sum.inr a:Key)=Sum.inl b)=false:=decide_eq_false λq=>nomatch q
noncomputable def dS(prog:AF)(w:AM):PySem.KeyKind prog w Key where
 is:=yN
 hash:=keyH w
 inj:=λv a b ha hb=>by
  rcases gG ha with⟨i,t,rfl,rfl⟩|⟨x,t,rfl,rfl⟩
  ·rcases gG hb with⟨j,u,rfl,e⟩|⟨y,u,rfl,e⟩
   ·injection e with e1 _;rw[e1]
   ·exact nomatch e
  ·rcases gG hb with⟨j,u,rfl,e⟩|⟨y,u,rfl,e⟩
   ·exact nomatch e
   ·injection e with e1 _;rw[e1]
 byValue:=λk v h=>by rcases gG h with⟨i,t,rfl,rfl⟩|⟨x,t,rfl,rfl⟩<;>rfl
 pyHash:=λhv h=>by
  rcases gG hv with⟨i,t,rfl,rfl⟩|⟨x,t,rfl,rfl⟩
  ·exact wpAny_pyHash_int h
  ·exact wpAny_pyHash_str h
 eqBool:=λhu hv h=>by
  rcases gG hu with⟨i,t,rfl,rfl⟩|⟨x,t,rfl,rfl⟩
  ·rcases gG hv with⟨j,u,rfl,rfl⟩|⟨y,u,rfl,rfl⟩
   ·rw[aMR] at h;exact wpAny_eqBool_int h
   ·rw[aMQ] at h;exact SeqAt.EqAt.int_str i t y u _ _ _ _ h
  ·rcases gG hv with⟨j,u,rfl,rfl⟩|⟨y,u,rfl,rfl⟩
   ·rw[aLZ] at h;exact SeqAt.EqAt.str_int x t j u _ _ _ _ h
   ·rw[aMe] at h;exact wpAny_eqBool_str h
 «strs»:=λk x t v h=>by
  rcases gG h with⟨i,u,rfl,e⟩|⟨y,u,rfl,e⟩
  ·exact nomatch e
  ·injection e with e1 _
   subst e1;cases v<;>rfl
theorem aAn(prog:AF)(w:AM)(i:Int)(t:Tok):(dS prog w).is (.inl i) (.int i t)=true:=aEr i t
theorem aAs(prog:AF)(w:AM)(x:Str)(t:Tok):(dS prog w).is (.inr x) (.str x t)=true:=aDK x t
inductive V where
 |non|bl (b:Bool)|int (i:Int)|str (x:Str)|byt (b:Array UInt8)|flt (b:UInt64)|ref (a:BG)|ty (n:String)
 deriving DecidableEq
noncomputable def RelV:V->BE->Prop
 |.non,u=>u=Value.none
 |.bl b,u=>u=Value.bool b
 |.int i,u=>∃t,u=Value.int i t
 |.str x,u=>∃t,u=Value.str x t
 |.byt b,u=>∃t,u=Value.bytes b t
 |.flt b,u=>∃t,u=Value.float b t
 |.ref a,u=>u=Value.ref a
 |.ty n,u=>u=Value.type n
abbrev Vals:List V->List BE->Prop:=Paired RelV
theorem Vals.length{xs:List V}{us:List BE}(r:Vals xs us):xs.length=us.length:=Paired.length r
theorem Vals.get:∀ {xs:List V}{us:List BE}{i:Nat}{x:V},Vals xs us->xs[i]? =some x->∃u,us[i]? =some u/\RelV x u
 |_,_,_,_,.nil,e=>by simp at e
 |_,_,0,_,.cons r _,e=>by simp at e;subst e;exact⟨_,rfl,r⟩
 |_,_,i+1,x,.cons _ t,e=>by obtain⟨u,h1,h2⟩:=Vals.get (i:=i) (x:=x) t (by simpa using e);exact⟨u,by simpa using h1,h2⟩
theorem Vals.append:∀ {xs ys:List V}{us ws:List BE},Vals xs us->Vals ys ws->Vals (xs++ys) (us++ws)
 |_,_,_,_,.nil,s=>s
 |_,_,_,_,.cons r t,s=>.cons r<|Vals.append t s
theorem Vals.take:∀ {xs:List V}{us:List BE} (n:Nat),Vals xs us->Vals (xs.take n) (us.take n)
 |_,_,0,_=>.nil
 |_,_,_+1,.nil=>.nil
 |_,_,n+1,.cons r t=>.cons r<|Vals.take n t
theorem Vals.drop:∀ {xs:List V}{us:List BE} (n:Nat),Vals xs us->Vals (xs.drop n) (us.drop n)
 |_,_,0,r=>r
 |_,_,_+1,.nil=>.nil
 |_,_,n+1,.cons _ t=>Vals.drop n t
noncomputable def RelO:Option V->Option BE->Prop
 |some v,some u=>RelV v u
 |none,none=>True
 |_,_=>False
def KV{κ:Type}:List (κ×V)->List (κ×BE)->Prop:=Paired λ(p:κ×V) (q:κ×BE)=>p.1=q.1/\RelV p.2 q.2
noncomputable def kV:Key->V
 |.inl i=>.int i
 |.inr x=>.str x
inductive HO where
 /-- a list -/
 |lst (xs:List V)
 /-- a tuple (never changes) -/
 |tup (xs:List V)
 /-- a dict whose keys are ints and texts;one whose keys are tuples of ints and texts (the empty one is both) -/
 |dK (kvs:List (Key×V))|dT (kvs:List (List Key×V))
 /-- a set of ints:its members,its size -/
 |set (S:Int->Bool) (n:Nat)
 /-- an instance of the class at C,its dict at dx,its attributes -/
 |ins (C dx:BG) (fs:List (Str×V))
 /-- the dict of the instance at x -/
 |own (x:BG)
 /-- the dict of an exception -/
 |xd (fs:List (Str×V))
 /-- a bound method,f of x -/
 |met (f x:BG)
 /-- a range object lo,lo+1, .. below hi -/
 |rng (lo hi:Int)
 /-- a thing that is known to the object (the script;a dict while a loop walks it):read,never written while it is so -/
 |frz (o:BJ) (u:HO)
 /-- a code object's table -/
 |tbl (ps:Array BE)
 /-- any other thing,by what is true of its one object (a def of one's own:SetO a S n:=HO.ext λh=> ..) -/
 |ext (φ:BI->Prop)
noncomputable abbrev Hp:=BG->Option HO
noncomputable def upd(H:Hp)(a:BG)(o:HO):Hp:=λb=>if b=a then some o else H b
theorem bV{H:Hp}{a:BG}{o:HO}:upd H a o a=some o:=by unfold upd;rw[if_pos rfl]
theorem bI{H:Hp}{a b:BG}{o:HO}(h:b≠a):upd H a o b=H b:=by unfold upd;rw[if_neg h]
theorem aNX{H:Hp}{a b:BG}{o u:HO}(h:H a=some o)(h':H b=some u)(d:o≠u):a≠b:=by intro e;subst e;rw[h] at h';exact d<|bS.inj h'
theorem cC{H:Hp}{a b:BG}{o:HO}(h:H a=some o)(h':H b=none):a≠b:=by intro e;subst e;rw[h] at h';cases h'
def IsTupD(h:BI)(a:BG)(items:Array BE):Prop:=∃o,h.get? a=some o/\o.cls=.type "tuple"/\(∃n,o.data=.seq items n)/\o.dict=none
theorem IsTupD.tup{h:BI}{a:BG}{items:Array BE}(x:IsTupD h a items):IsTup h a items:=let ⟨o,e,c,d,_⟩:=x;⟨o,e,c,d⟩
theorem IsTupD.new(h:BI)(items:Array BE):IsTupD (h.push {cls:=.type "tuple",data:=.seq items}) h.objs.size items:=⟨_,bK _ rfl,rfl,⟨_,rfl⟩,rfl⟩
variable (P:AF)(w:AM)
noncomputable def ObjOk(H:Hp)(h:BI)(a:BG):HO->Prop
 |.lst xs=>xs.length<=AL/\∃ (its:List BE) (n:Nat),Vals xs its/\h.get? a=some {cls:=.type "list",data:=.seq its.toArray n}
 |.tup xs=>xs.length<=AL/\∃its:List BE,Vals xs its/\IsTupD h a its.toArray
 |.dK kvs=>kvs.length<=AL/\(a==AW)=false/\∃vs,KV kvs vs/\h.DictOf (dS P w) a vs
 |.dT kvs=>kvs.length<=AL/\(a==AW)=false/\∃xs:List (List Key×BG×BE),
   Paired (λ(p:List Key×V) (q:List Key×BG×BE)=>p.1=q.1/\H q.2.1=some (.tup<|p.1.map kV)/\RelV p.2 q.2.2) kvs xs/\
   ∃o es ep,h.get? a=some o/\o.ExactDict/\o.data=.dict es ep/\es.toList=xs.map (entryOfKey (AQ<|dS P w))/\(xs.map (·.1)).Nodup
 |.set S n=>h.SetOf (intKind P w) a S n
 |.ins C dx fs=>H dx=some (.own a)/\fs.length<=1000/\dx≠a/\h.get? a=some (tZ C dx)/\
   ∃mA,h.Ns1 dx mA/\(∀f,RelO (fs.lookup f)<|mA f)/\PySem.Within mA (fs.map (·.1))
 |.own _=>∃o,h.get? a=some o
 |.xd fs=>∃mA,h.Ns1 a mA/\∀f,RelO (fs.lookup f)<|mA f
 |.rng lo hi=>∃t u v,h.get? a=some {cls:=.type "range",data:=.fields #[.int lo t,.int hi u,.int 1 v]}
 |.frz o u=>h.get? a=some o/\ObjOk H h a u
 |.tbl ps=>h.get? a=some {cls:=.none,data:=.fields ps}
 |.met f x=>h.get? a=some (sC (.ref f)<|.ref x)
 |.ext φ=>φ h/\(∃o,h.get? a=some o)/\∀h1 h2:BI,φ h1->(∀o,h1.get? a=some o->h2.get? a=some o)->φ h2
def HOk(H:Hp)(h:BI):Prop:=∀a o,H a=some o->ObjOk P w H h a o
variable {P:AF}{w:AM}{H H':Hp}{h h':BI}{a:BG}{o:HO}
theorem ObjOk.lt(x:ObjOk P w H h a o):a<h.objs.size:=by
 cases o with
 |lst xs=>obtain⟨_,_,_,_,e⟩:=x;exact aR e
 |tup xs=>obtain⟨_,_,_,p⟩:=x;exact p.tup.lt
 |dK kvs=>obtain⟨_,_,_,_,o,_,_,e,_⟩:=x;exact aR e
 |dT kvs=>obtain⟨_,_,_,_,o,_,_,e,_⟩:=x;exact aR e
 |set S n=>obtain⟨o,_,_,_,e,_⟩:=x;exact aR e
 |ins C dx fs=>obtain⟨_,_,_,e,_⟩:=x;exact aR e
 |own y=>obtain⟨_,e⟩:=x;exact aR e
 |xd fs=>obtain⟨_,⟨_,_,_,e,_⟩,_⟩:=x;exact aR e
 |rng lo hi=>obtain⟨_,_,_,e⟩:=x;exact aR e
 |frz ob u=>obtain⟨e,_⟩:=x;exact aR e
 |tbl ps=>exact aR (show h.get? a=some _ from x)
 |met f y=>exact aR (show h.get? a=some _ from x)
 |ext φ=>obtain⟨_,⟨_,e⟩,_⟩:=x;exact aR e
theorem Paired.mapP{α β:Type}{F G:α->β->Prop}:∀ {l₁:List α}{l₂:List β},Paired F l₁ l₂->(∀a b,F a b->G a b)->Paired G l₁ l₂
 |_,_,.nil,_=>.nil
 |_,_,.cons r t,f=>.cons (f _ _ r)<|Paired.mapP t f
theorem ObjOk.stay(x:ObjOk P w H h a o)(k:∀b u,(b=a\/H b=some (.own a))->h.get? b=some u->h'.get? b=some u)
  (ho:∀b,H b=some (.own a)->H' b=some (.own a)) (ht:∀b xs,H b=some (.tup xs)->H' b=some (.tup xs)):ObjOk P w H' h' a o:=by
 induction o with
 |lst xs=>obtain⟨z,its,n,r,e⟩:=x;exact⟨z,its,n,r,k _ _ (.inl rfl) e⟩
 |tup xs=>obtain⟨z,its,r,ob,e,c⟩:=x;exact⟨z,its,r,ob,k _ _ (.inl rfl) e,c⟩
 |dK kvs=>obtain⟨z,y,vs,r,ob,es,ep,e,c⟩:=x;exact⟨z,y,vs,r,ob,es,ep,k _ _ (.inl rfl) e,c⟩
 |dT kvs=>obtain⟨z,y,xs,r,ob,es,ep,e,c⟩:=x;exact⟨z,y,xs,Paired.mapP r λp q z=>⟨z.1,ht _ _ z.2.1,z.2.2⟩,ob,es,ep,k _ _ (.inl rfl) e,c⟩
 |set S n=>obtain⟨ob,es,ep,t,e,c⟩:=x;exact⟨ob,es,ep,t,k _ _ (.inl rfl) e,c⟩
 |ins C dx fs=>obtain⟨d,z,ne,e,mA,⟨od,es,ep,e2,c⟩,r⟩:=x;exact⟨ho _ d,z,ne,k _ _ (.inl rfl) e,mA,⟨od,es,ep,k _ _ (.inr d) e2,c⟩,r⟩
 |own y=>obtain⟨ob,e⟩:=x;exact⟨ob,k _ _ (.inl rfl) e⟩
 |xd fs=>obtain⟨mA,⟨od,es,ep,e,c⟩,r⟩:=x;exact⟨mA,⟨od,es,ep,k _ _ (.inl rfl) e,c⟩,r⟩
 |rng lo hi=>obtain⟨t,u,v,e⟩:=x;exact⟨t,u,v,k _ _ (.inl rfl) e⟩
 |frz ob u ih=>obtain⟨e,q⟩:=x;exact⟨k _ _ (.inl rfl) e,ih q⟩
 |tbl ps=>have e:h.get? a=some {cls:=.none,data:=.fields ps}:=x;show h'.get? a=some {cls:=.none,data:=.fields ps};exact k a _ (.inl rfl) e
 |met f y=>have e:h.get? a=some (sC (.ref f)<|.ref y):=x;show h'.get? a=some (sC (.ref f)<|.ref y);exact k a _ (.inl rfl) e
 |ext φ=>obtain⟨p,⟨o,e⟩,st⟩:=x;exact⟨st _ _ p λo q=>k _ _ (.inl rfl) q,⟨o,k _ _ (.inl rfl) e⟩,st⟩
theorem HOk.lt(x:HOk P w H h)(e:H a=some o):a<h.objs.size:=(x a o e).lt
theorem HOk.fresh(x:HOk P w H h)(e:h.objs.size<=a):H a=none:=by
 cases q:H a with
 |none=>rfl
 |some u=>exact absurd (aV (x.lt q) e)<|eD _
theorem HOk.kept(x:HOk P w H h)(k:∀b u,h.get? b=some u->h'.get? b=some u):HOk P w H h':=λa o e=>(x a o e).stay (λb u _ q=>k b u q) (λ_ q=>q) λ_ _ q=>q
theorem HOk.laid(x:HOk P w H h)(k:∀b u,h.get? b=some u->h'.get? b=some u)(hp:h.objs.size<=a)(new:ObjOk P w (upd H a o) h' a o):HOk P w (upd H a o) h':=λb u e=>by
 have hn:=x.fresh hp
 by_cases hb:b=a
 ·subst hb;rw[bV] at e;cases e;exact new
 ·rw[bI hb] at e;exact(x b u e).stay (λc v _ q=>k c v q) (λc q=>by rw[bI<|cC q hn];exact q) λc xs q=>by rw[bI<|cC q hn];exact q
def Rd(H:Hp)(a:BG)(u:HO):Prop:=H a=some u\/∃o,H a=some (.frz o u)
theorem Rd.of{u:HO}(h:H a=some u):Rd H a u:=.inl h
theorem Rd.ok{u:HO}(r:Rd H a u)(x:HOk P w H h):ObjOk P w H h a u:=by
 rcases r with r|⟨o,r⟩
 ·exact x a u r
 ·obtain⟨_,q⟩:=x a _ r;exact q
noncomputable def Mut:Option HO->Prop
 |some (.lst _)=>True
 |some (.dK _)=>True
 |some (.dT _)=>True
 |some (.set _ _)=>True
 |some (.ins _ _ _)=>True
 |some (.ext _)=>True
 |_=>False
variable {x e:BG}{o':HO}
theorem HOk.write(ok:HOk P w H h)(mu:Mut (H x))(he:e=x\/H e=some (.own x))(k:∀b u,b≠e->h.get? b=some u->h'.get? b=some u)(heo:∃u,h'.get? e=some u)
  (new:ObjOk P w (upd H x o') h' x o'):HOk P w (upd H x o') h':=λb u q=>by
 have nown:∀c y,H c=some (.own y)->c≠x:=λc y r z=>by subst z;rw[r] at mu;exact mu
 have ntup:∀c xs,H c=some (.tup xs)->c≠x:=λc xs r z=>by subst z;rw[r] at mu;exact mu
 by_cases hb:b=x
 ·subst hb;rw[bV] at q;cases q;exact new
 ·rw[bI hb] at q
  by_cases hbe:b=e
  ·have q':H b=some (.own x):=by
    rcases he with z|z
    ·exact absurd (hbe.trans z) hb
    ·rw[hbe];exact z
   rw[q] at q';cases q';obtain⟨v,hv⟩:=heo;exact⟨v,by rw[hbe];exact hv⟩
  ·refine(ok b u q).stay (λc v hc r=>k c v ?_ r) (λc r=>by rw[bI<|nown c b r];exact r) λc xs r=>by rw[bI<|ntup c xs r];exact r
   rcases hc with rfl|hc
   ·exact hbe
   ·rintro rfl
    rcases he with z|z
    ·exact nown c b hc z
    ·rw[hc] at z;cases z;exact hb rfl
structure Un(fs ex:List BG)(H H':Hp)(h h':BI):Prop where
 keep:∀b o,h.get? b=some o->H b=none->b∉fs->b∉ex->h'.get? b=some o
 slot:∀b o,h.get? b=some o->H b=none->b∈fs->b∉ex->∃sl,h'.get? b=some {o with slots:=sl}
 free:∀b o,h.get? b=some o->H b=none->b∉ex->H' b=none
 there:∀b o,h.get? b=some o->b∉ex->∃o',h'.get? b=some o'
 tups:∀b xs,H b=some (.tup xs)->H' b=some (.tup xs)
 frzs:∀b o u,H b=some (.frz o u)->H' b=some (.frz o u)
 tbls:∀b ps,H b=some (.tbl ps)->∃more,H' b=some (.tbl<|ps++more)
section
variable {fs fs' ex ex':List BG}{H H1 H2:Hp}{h h1 h2 h':BI}{a x e:BG}{o:HO}
theorem Un.any(u:Un fs ex H H1 h h1){b:BG}{ob:BJ}(q:h.get? b=some ob)(n:H b=none)(hx:b∉ex):∃sl,h1.get? b=some {ob with slots:=sl}:=by
 by_cases hb:b∈fs
 ·exact u.slot b ob q n hb hx
 ·exact⟨ob.slots,u.keep b ob q n hb hx⟩
theorem Un.kept(k:∀b u,h.get? b=some u->h'.get? b=some u):Un fs ex H H h h':=
 ⟨λb ob q _ _ _=>k b ob q,λb ob q _ _ _=>⟨ob.slots,k b ob q⟩,λ_ _ _ n _=>n,λb ob q _=>⟨ob,k b ob q⟩,λ_ _ q=>q,λ_ _ _ q=>q,λ_ ps q=>⟨#[],by rw[q];simp⟩⟩
theorem Un.refl:Un fs ex H H h h:=Un.kept λ_ _ q=>q
theorem Un.laid(k:∀b u,h.get? b=some u->h'.get? b=some u)(hp:h.objs.size<=a)(hn:H a=none):Un fs ex H (upd H a o) h h' where
 keep:=λb u q _ _ _=>k b u q
 slot:=λb u q _ _ _=>⟨u.slots,k b u q⟩
 free:=λb u q n _=>by rw[bI (bN<|aV (aR q) hp)];exact n
 there:=λb u q _=>⟨u,k b u q⟩
 tups:=λb xs q=>by rw[bI<|cC q hn];exact q
 frzs:=λb u xs q=>by rw[bI<|cC q hn];exact q
 tbls:=λb ps q=>⟨#[],by rw[bI<|cC q hn,q];simp⟩
theorem Un.write(mu:Mut (H x))(he:e=x\/H e=some (.own x))(k:∀b u,b≠e->h.get? b=some u->h'.get? b=some u)(heo:∃u,h'.get? e=some u):Un fs ex H (upd H x o) h h':=by
 have hx:∀b,H b=none->b≠x:=λb n z=>by subst z;rw[n] at mu;exact mu
 have hb:∀b,H b=none->b≠e:=λb n z=>by
  subst z
  rcases he with r|r
  ·exact hx b n r
  ·rw[n] at r;cases r
 have hm:∀b u,H b=some u->¬ Mut (some u)->b≠x:=λb u q nm z=>by subst z;rw[q] at mu;exact nm mu
 refine ⟨fun b u q n _ _=>k b u (hb b n) q,fun b u q n _ _=>⟨u.slots,k b u (hb b n) q⟩,fun b u q n _=>by rw [bI (hx b n)]; exact n,fun b u q _=> ?_,
  λb xs q=>by rw[bI (hm b _ q λz=>z)];exact q,λb u xs q=>by rw[bI (hm b _ q λz=>z)];exact q,λb ps q=>⟨#[],by rw[bI (hm b _ q λz=>z),q];simp⟩⟩
 by_cases hbe:b=e
 ·subst hbe;exact heo
 ·exact⟨u,k b u hbe q⟩
end
noncomputable def trk(h:BI)(H:Hp):List BG:=(bM h.objs.size).filter λa=>(H a).isSome
noncomputable def zE(h:BI)(H:Hp):BI:=PySem.W.hideAll h<|trk h H
theorem aEF(h:BI)(H:Hp):(zE h H).objs.size=h.objs.size:=PySem.W.hideAll_size _ _
theorem aGq{b:BG}{o:BJ}(e:h.get? b=some o)(n:H b=none):(zE h H).get? b=some o:=
 PySem.W.hideAll_get _ e λhm=>by have q:(H b).isSome=true:=(gK.mp hm).2;rw[n] at q;simp at q
theorem aJt{b:BG}{o:BJ}(e:(zE h H).get? b=some o):h.get? b=some o/\H b=none:=by
 have e':h.get? b=some o:=PySem.W.of_hideAll (trk h H) e;refine⟨e', ?_⟩;cases q:H b with
 |none=>rfl
 |some x=>have hm:b∈trk h H:=gK.mpr ⟨cE.mpr<|aR e',by simp[q]⟩;have z:(zE h H).get? b=none:=PySem.W.hideAll_none (trk h H) hm;rw[z] at e;cases e
noncomputable def aJB(g h:BI)(L:BG):List (BG×BJ):=(bM h.objs.size).filterMap λa=>if a=L\/(g.get? a).isSome=true then none else(h.get? a).map λo=>(a,o)
noncomputable def rest(g h:BI)(L d:BG):List (BG×BJ):=(aJB g h L).filter λp=>decide<|p.1≠d
structure Mod(K:aB)(mg:Str->Option BE)(base:BI):Prop where
 kin:K.In base
 glob:base.Ns AR mg
 blt:∃mb,base.Ns builtinsNs mb/\∀x:Str,x≠"__name__"->mb x=Ae x
 nolimit:base.NoLimit
noncomputable def zX:HO->Prop
 |.lst _=>False
 |.dK _=>False
 |.ext _=>False
 |_=>True
structure Cx where
 prog:AF
 w:AM
 K:aB
 mg:Str->Option BE
 base:BI
 A:BH
 N:List Str
 s₀:BF
 H₀:Hp
 env:Env
 outer:List Env
 stack:List Env
 ex:List BG
 fn:Str->Bool
 calm:Bool
 pn:List (BG×BJ)
 xe:BE->BF->Prop
 B₀:Hp:=H₀
 hB:∀b o,H₀ b=some o->zX o->B₀ b=some o:=by intro b o e _;exact e
noncomputable def frs(l:List Env):List BG:=l.filterMap (·.frame)
noncomputable abbrev Cx.fs(X:Cx):List BG:=frs X.outer
def Vis(sc:Scope)(x:Str):Prop:=sc.names.lookup x=some .local\/sc.names.lookup x=some .cell\/sc.names.lookup x=some .free
def Loc(sc:Scope)(x:Str):Prop:=sc.names.lookup x=some .local\/sc.names.lookup x=some .cell
def aOH(env:Env)(h:BI)(m:Str->Option BE)(x:Str)(u:BE):Prop:=
 (env.kindOf x=some .local/\m x=some u)\/((env.kindOf x=some .cell\/env.kindOf x=some .free)/\∃c,env.cells.lookup x=some c/\h.IsCell c (some u))
structure Cx.Ok(X:Cx):Prop where
 mod:Mod X.K X.mg X.base
 kind:X.env.scope.kind=.function
 glob:X.env.globals=AR
 blt:X.env.builtins=builtinsNs
 above:X.s₀.heap.objs.size<=X.env.locals
 inj:∀x y c,X.env.cells.lookup x=some c->X.env.cells.lookup y=some c->x=y
 has:∀x,(X.env.kindOf x=some .cell\/X.env.kindOf x=some .free)->∃c,X.env.cells.lookup x=some c
 cab:∀x c,X.fn x=true->X.env.cells.lookup x=some c->X.s₀.heap.objs.size<=c
 hd:X.calm=true->X.A.handled=none
 frames:X.A.frames=some X.stack
 stk:X.stack=X.outer\/(X.stack=X.env::X.outer/\X.env.frame=some X.env.locals)
 exf:∀b∈X.ex,b≠X.env.locals/\∀x c,X.env.cells.lookup x=some c->c≠b
 bs:∀b o,X.base.get? b=some o->X.s₀.heap.get? b=some o/\X.H₀ b=none
 bsz:X.base.objs.size<=X.s₀.heap.objs.size
 noex:∀b o,X.base.get? b=some o->b∉X.ex
 exfs:∀b∈X.ex,b∉X.fs
 funs:X.s₀.heap.FunFrames X.base X.outer
 frf:∀b∈X.fs,X.H₀ b=none
structure Inv(X:Cx)(pins:List (BG×BJ))(σ:List (Option V))(H:Hp)(s:BF):Prop where
 ok:X.Ok
 os:s.os=X.s₀.os
 bare:AllBare s.gens
 base:Un X.fs X.ex X.H₀ H X.s₀.heap s.heap
 loc:∃m,s.heap.Ns X.env.locals m/\∀ (i:Nat) (x:Str) (v:V),X.N[i]? =some x->σ[i]? =some (some v)->Vis X.env.scope x->∃u,RelV v u/\aOH X.env s.heap m x u
 cell:∀x c,X.env.cells.lookup x=some c->∃v,s.heap.IsCell c v
 free:H X.env.locals=none
 freeC:∀x c,X.env.cells.lookup x=some c->H c=none
 pin:∀p∈X.pn++pins,s.heap.get? p.1=some p.2/\H p.1=none/\p.1≠X.env.locals/\p.1∉X.fs/\∀v,p.2.data≠ .cell v
 hok:HOk X.prog X.w H s.heap
 len:σ.length=X.N.length
variable {X:Cx}{pins:List (BG×BJ)}{σ:List (Option V)}{s:BF}
theorem Cx.Ok.nofr(ok:X.Ok){b:BG}{o:BJ}(e:X.base.get? b=some o):b∉X.fs:=λhb=>by have:=(ok.funs.mem hb).1;rw[e] at this;cases this
theorem Inv.bs(I:Inv X pins σ H s):∀b o,X.base.get? b=some o->s.heap.get? b=some o/\H b=none:=λb o e=>⟨I.base.keep b o (I.ok.bs b o e).1 (I.ok.bs b o e).2 (I.ok.nofr e)<|I.ok.noex b o e,I.base.free b o (I.ok.bs b o e).1 (I.ok.bs b o e).2<|I.ok.noex b o e⟩
theorem Inv.bk(I:Inv X pins σ H s):∀b o,X.base.get? b=some o->s.heap.get? b=some o:=λb o e=>(I.bs b o e).1
theorem Inv.mod(I:Inv X pins σ H s):Mod X.K X.mg X.base:=I.ok.mod
theorem Inv.kIn(I:Inv X pins σ H s):X.K.In s.heap:=I.ok.mod.kin.keeps I.bk
theorem Inv.lt(I:Inv X pins σ H s):X.env.locals<s.heap.objs.size:=let ⟨_,hn,_⟩:=I.loc;hn.lt
theorem Inv.sz(I:Inv X pins σ H s):X.s₀.heap.objs.size<=s.heap.objs.size:=cG I.ok.above<|dN I.lt
theorem Inv.nofs(I:Inv X pins σ H s)(h:s.heap.objs.size<=a):a∉X.fs:=λhb=>by obtain⟨_,o,ho,_⟩:=I.ok.funs.mem hb;exact absurd (aV (aR ho)<|cG I.sz h)<|eD _
theorem Inv.cne(I:Inv X pins σ H s):∀x c,X.env.cells.lookup x=some c->c≠X.env.locals:=λx c e z=>by obtain⟨v,o,ho,hd⟩:=I.cell x c e;obtain⟨m,⟨o',es,ep,ho',hd',_⟩,_⟩:=I.loc;rw[z,ho'] at ho;cases ho;rw[hd'] at hd;cases hd
theorem Inv.funs(I:Inv X pins σ H s):s.heap.FunFrames X.base X.outer:=by
 have all:∀ (l:List Env),(∀b∈frs l,b∈X.fs)->X.s₀.heap.FunFrames X.base l->s.heap.FunFrames X.base l:=by
  intro l
  induction l with
  |nil=>intro _ _;trivial
  |cons env r ih=>
   intro hs hl;obtain⟨hk,⟨L,o,hf,hn,ho,hd⟩,hr⟩:=hl;have hL:L∈X.fs:=hs L (by unfold frs;rw[fV,hf];exact aG);obtain⟨sl,e⟩:=I.base.slot L o ho (I.ok.frf L hL) hL λz=>I.ok.exfs L z hL
   exact⟨hk,⟨L,_,hf,hn,e,hd⟩,ih (λb hb=>hs b<|by unfold frs;rw[fV,hf];exact aF _ hb) hr⟩
 exact all X.outer (λ_ hb=>hb) I.ok.funs
theorem Inv.stack(I:Inv X pins σ H s):s.heap.FunFrames X.base X.stack:=by
 rcases I.ok.stk with e|⟨e,hf⟩
 ·rw[e];exact I.funs
 ·rw[e];obtain⟨m,hn,_⟩:=I.loc;refine .cons (by rw[I.ok.kind];decide) hf hn ?_ I.funs;exact Heap.get?_none_of_le<|cG I.ok.bsz I.ok.above
theorem Inv.stkSub(I:Inv X pins σ H s):∀b∈frs X.stack,b∈X.env.locals::X.fs:=λb hb=>by
 rcases I.ok.stk with e|⟨e,hf⟩
 ·rw[e] at hb;exact aF _ hb
 ·rw[e] at hb;unfold frs at hb;rw[fV,hf] at hb;exact hb
theorem Inv.stkFree(I:Inv X pins σ H s):∀b∈frs X.stack,H b=none:=λb hb=>by
 rcases aU.mp (I.stkSub b hb) with e|hb
 ·rw[e];exact I.free
 ·obtain⟨_,o,ho,_⟩:=I.ok.funs.mem hb;exact I.base.free b o ho (I.ok.frf b hb) λz=>I.ok.exfs b z hb
theorem Inv.step{g':Array GenState}{t':Nat}{d':Drawn}{ch:List BG}(I:Inv X pins σ H s)
  (hch:∀b∈ch,(b∈X.ex\/X.s₀.heap.objs.size<=b)/\b≠X.env.locals/\(∀x c,X.env.cells.lookup x=some c->c≠b)/\∀p∈X.pn++pins,p.1≠b)
  (keep:∀b o,b≠X.env.locals->b∉X.fs->b∉ch->s.heap.get? b=some o->H b=none->h'.get? b=some o)
  (slot:∀b o,b≠X.env.locals->b∈X.fs->b∉ch->s.heap.get? b=some o->H b=none->∃sl,h'.get? b=some {o with slots:=sl}) (free:∀b o,b∉ch->s.heap.get? b=some o->H b=none->H' b=none)
  (there:∀b o,b∉ch->s.heap.get? b=some o->∃o',h'.get? b=some o')
  (tups:∀b xs,H b=some (.tup xs)->H' b=some (.tup xs)) (frzs:∀b o u,H b=some (.frz o u)->H' b=some (.frz o u)) (tbls:∀b ps,H b=some (.tbl ps)->∃more,H' b=some (.tbl<|ps++more))
  (ns:∀m,s.heap.Ns X.env.locals m->h'.Ns X.env.locals m) (hok:HOk X.prog X.w H' h') (hg:AllBare g'):
  Inv X pins σ H' {s with heap:=h',gens:=g',drawn:=d',toks:=t'}:=by
 have neL:∀b o,X.s₀.heap.get? b=some o->b≠X.env.locals:=λb o e=>bN<|aV (aR e) I.ok.above
 have neC:∀b o,X.s₀.heap.get? b=some o->b∉X.ex->b∉ch:=λb o e hx hb=>by
  rcases(hch b hb).1 with z|z
  ·exact hx z
  ·exact absurd (aV (aR e) z)<|eD _
 have cellK:∀x c,X.env.cells.lookup x=some c->∀v,s.heap.IsCell c v->h'.IsCell c v:=λx c e v ⟨o,ho,hd⟩=>by
  have nch:c∉ch:=λz=>(hch c z).2.2.1 x c e rfl
  by_cases hc:c∈X.fs
  ·obtain⟨sl,q⟩:=slot c o (I.cne x c e) hc nch ho<|I.freeC x c e;exact⟨_,q,hd⟩
  ·exact⟨o,keep c o (I.cne x c e) hc nch ho<|I.freeC x c e,hd⟩
 refine⟨I.ok,I.os,hg,⟨λb o e n hb hx=> ?_,λb o e n hb hx=> ?_,λb o e n hx=> ?_,λb o e hx=> ?_,λb xs e=>tups b xs<|I.base.tups b xs e,λb o xs e=>frzs b o xs<|I.base.frzs b o xs e,λb ps e=> ?_⟩, ?_,λx c e=> ?_, ?_,λx c e=> ?_,λp hp=> ?_,hok,I.len⟩
 ·exact keep b o (neL b o e) hb (neC b o e hx) (I.base.keep b o e n hb hx)<|I.base.free b o e n hx
 ·obtain⟨sl,e1⟩:=I.base.slot b o e n hb hx;obtain⟨sl',e2⟩:=slot b _ (neL b o e) hb (neC b o e hx) e1<|I.base.free b o e n hx;exact⟨sl',e2⟩
 ·obtain⟨o',e1⟩:=I.base.there b o e hx;exact free b o' (neC b o e hx) e1<|I.base.free b o e n hx
 ·obtain⟨o',e1⟩:=I.base.there b o e hx;exact there b o' (neC b o e hx) e1
 ·obtain⟨m1,e1⟩:=I.base.tbls b ps e;obtain⟨m2,e2⟩:=tbls b _ e1;exact⟨m1++m2,by rw[e2,Array.append_assoc]⟩
 ·obtain⟨m,hn,hl⟩:=I.loc;refine⟨m,ns m hn,λi x v e1 e2 e3=> ?_⟩;obtain⟨u,r,l⟩:=hl i x v e1 e2 e3;refine⟨u,r, ?_⟩
  rcases l with l|⟨k,c,e,z⟩
  ·exact .inl l
  ·exact .inr ⟨k,c,e,cellK x c e _ z⟩
 ·obtain⟨v,z⟩:=I.cell x c e;exact⟨v,cellK x c e v z⟩
 ·obtain⟨m,⟨o,_,_,ho,_⟩,_⟩:=I.loc;exact free _ o (λz=>(hch _ z).2.1 rfl) ho I.free
 ·obtain⟨v,o,ho,hd⟩:=I.cell x c e;exact free c o (λz=>(hch c z).2.2.1 x c e rfl) ho<|I.freeC x c e
 ·obtain⟨e,n,ne,nf,d⟩:=I.pin p hp;have nch:p.1∉ch:=λz=>(hch p.1 z).2.2.2 p hp rfl
  exact⟨keep p.1 p.2 ne nf nch e n,free p.1 p.2 nch e n,ne,nf,d⟩
theorem Inv.un{t':Nat}(I:Inv X pins σ H s)(u:Un X.fs [] H H' s.heap h')(hok:HOk X.prog X.w H' h'):Inv X pins σ H' {s with heap:=h',toks:=t'}:=by
 obtain⟨m,⟨o,es,ep,ho,r⟩,_⟩:=id I.loc;obtain⟨sl,hL⟩:=u.any ho I.free<|by simp
 exact I.step (g':=s.gens) (d':=s.drawn) (ch:=[]) (fun _ z=>nomatch z) (fun b o _ hb _ e n=>u.keep b o e n hb (by simp)) (fun b o _ hb _ e n=>u.slot b o e n hb (by simp)) (fun b o _ e n=>u.free b o e n (by simp)) (fun b o _ e=>u.there b o e (by simp)) u.tups u.frzs u.tbls (fun m' hm=>by
  obtain⟨o',es',ep',ho',r'⟩:=hm;rw[ho] at ho';cases ho'
  exact⟨_,es',ep',hL,r'⟩) hok I.bare
theorem Inv.call{g':Array GenState}{t':Nat}{d':Drawn}{ch:List BG}(I:Inv X pins σ H s)(u:Un (frs X.stack) ch H H' s.heap h')(hok:HOk X.prog X.w H' h')(hg:AllBare g')
  (hch:∀b∈ch,(b∈X.ex\/X.s₀.heap.objs.size<=b)/\b≠X.env.locals/\(∀x c,X.env.cells.lookup x=some c->c≠b)/\∀p∈X.pn++pins,p.1≠b):
  Inv X pins σ H' {s with heap:=h',gens:=g',drawn:=d',toks:=t'}:=by
 obtain⟨m,⟨o,es,ep,ho,r⟩,_⟩:=id I.loc;obtain⟨sl,hL⟩:=u.any ho I.free λz=>(hch _ z).2.1 rfl
 exact I.step (ch:=ch) hch (fun b o hL hb hc e n=>u.keep b o e n (fun z=>(aU.mp (I.stkSub b z)).elim hL hb) hc) (fun b o _ _ hc e n=>u.any e n hc) (fun b o hc e n=>u.free b o e n hc) (fun b o hc e=>u.there b o e hc) u.tups u.frzs u.tbls (fun m' hm=>by
  obtain⟨o',es',ep',ho',r'⟩:=hm;rw[ho] at ho';cases ho'
  exact⟨_,es',ep',hL,r'⟩) hok hg
theorem Inv.turned{t':Nat}{it:BG}(I:Inv X pins σ H s)(k:∀b o,b≠it->s.heap.get? b=some o->h'.get? b=some o)(hn:H it=none)(hL:it≠X.env.locals)
  (h1:it∈X.ex\/X.s₀.heap.objs.size<=it) (h2:∀x c,X.env.cells.lookup x=some c->c≠it) (h3:∀p∈X.pn++pins,p.1≠it):Inv X pins σ H {s with heap:=h',toks:=t'}:=by
 have nit:∀b u,H b=some u->b≠it:=λb u e z=>by rw[z,hn] at e;cases e
 refine I.step (g':=s.gens) (d':=s.drawn) (ch:=[it]) (λb hb=> ?_) (λb o _ _ hc e _=>k b o (λz=>hc<|by simp[z]) e) (λb o _ _ hc e _=>⟨o.slots,k b o (λz=>hc<|by simp[z]) e⟩) (λ_ _ _ _ n=>n)
  (λb o hc e=>⟨o,k b o (λz=>hc<|by simp[z]) e⟩) (λ_ _ e=>e) (λ_ _ _ e=>e) (λb ps e=>⟨#[],by rw[e];simp⟩) (λm hm=> ?_) (λb u e=> ?_) I.bare
 ·have e:b=it:=by simpa using hb
  subst e;exact⟨h1,hL,h2,h3⟩
 ·obtain⟨o,es,ep,ho,r⟩:=hm;exact⟨o,es,ep,k _ o (Ne.symm hL) ho,r⟩
 ·refine(I.hok b u e).stay (λc v hc q=>k c v ?_ q) (λ_ q=>q) λ_ _ q=>q
  rcases hc with z|z
  ·rw[z];exact nit b u e
  ·exact nit c _ z
theorem Inv.tok(I:Inv X pins σ H s)(t:Nat):Inv X pins σ H {s with toks:=t}:=I.un (h':=s.heap) (t':=t) Un.refl I.hok
theorem Inv.kept{t':Nat}(I:Inv X pins σ H s)(k:∀b u,s.heap.get? b=some u->h'.get? b=some u):Inv X pins σ H {s with heap:=h',toks:=t'}:=I.un (Un.kept k)<|I.hok.kept k
theorem Inv.laid{t':Nat}(I:Inv X pins σ H s)(k:∀b u,s.heap.get? b=some u->h'.get? b=some u)(hp:s.heap.objs.size<=a)(new:ObjOk X.prog X.w (upd H a o) h' a o):
  Inv X pins σ (upd H a o) {s with heap:=h',toks:=t'}:=I.un (Un.laid k hp<|I.hok.fresh hp)<|I.hok.laid k hp new
theorem Inv.write{t':Nat}(I:Inv X pins σ H s)(mu:Mut (H x))(he:e=x\/H e=some (.own x))(k:∀b u,b≠e->s.heap.get? b=some u->h'.get? b=some u)(heo:∃u,h'.get? e=some u)
  (new:ObjOk X.prog X.w (upd H x o) h' x o):Inv X pins σ (upd H x o) {s with heap:=h',toks:=t'}:=I.un (Un.write mu he k heo)<|I.hok.write mu he k heo new
theorem Inv.pins_of{pins':List (BG×BJ)}(I:Inv X pins σ H s)(h:∀p∈pins',s.heap.get? p.1=some p.2/\H p.1=none/\p.1≠X.env.locals/\p.1∉X.fs/\∀v,p.2.data≠ .cell v):Inv X pins' σ H s:=
 ⟨I.ok,I.os,I.bare,I.base,I.loc,I.cell,I.free,I.freeC,λp hp=>(aM.mp hp).elim (λz=>I.pin p<|aZ _ z)<|h p,I.hok,I.len⟩
theorem uS{N:List Str}(hN:N.Nodup){i j:Nat}{x:Str}(a:N[i]? =some x)(b:N[j]? =some x):i=j:=by obtain⟨h1,e1⟩:=aD.mp a;obtain⟨h2,e2⟩:=aD.mp b;exact(dR hN).mp<|e1.trans e2.symm
theorem aDX{M:Model}{A:BH}{E:BE->BF->Prop}{i:Nat}{x:Str}{v:V}{u:BE}{Q:Unit->BF->Prop}(I:Inv X pins σ H s)(hN:X.N.Nodup)(hi:X.N[i]? =some x)(hx:Loc X.env.scope x)(r:RelV v u)
  (h:∀s',Inv X pins (σ.set i (some v)) H s'->(∃a,Heap.SameBut a s.heap s'.heap/\(a=X.env.locals\/X.env.cells.lookup x=some a))->Q () s') (hf:X.fn x=true\/X.env.scope.names.lookup x=some .local:=by first|exact .inl rfl|exact .inr rfl|assumption):AK M A (storeName X.env x u) Q E s:=by
 obtain⟨m,hn,hl⟩:=id I.loc;have hcls:(X.env.scope.kind==.class||(X.env.scope.kind==.module&&X.env.locals !=X.env.globals))=false:=by rw[I.ok.kind];rfl
 have hiσ:i<σ.length:=by rw[I.len];exact(aD.mp hi).1
 have cne:=I.cne
 have tracked:∀ {a:BG}{h':BI},(∃o,s.heap.get? a=some o/\H a=none)->Heap.SameBut a s.heap h'->HOk X.prog X.w H h':=λ{a h'} ha hs b ob e=>by
  obtain⟨_,_,hfree⟩:=ha;refine(I.hok b ob e).stay (λc w' hc q=>(hs.2 c ?_).trans q) (λ_ q=>q) λ_ _ q=>q
  rintro rfl
  rcases hc with rfl|hc
  ·rw[hfree] at e;cases e
  ·rw[hfree] at hc;cases hc
 rcases hx with hk|hk
 ·refine wpAny_storeName_local hk hn (λh' hn' hs=> ?_) hcls;obtain⟨oL,_,_,hoL,_⟩:=id hn;refine h _ ⟨I.ok,I.os,I.bare,⟨λb o e n hb hx=> ?_,λb o e n hb hx=> ?_,I.base.free,λb o e hx=> ?_,I.base.tups,I.base.frzs,I.base.tbls⟩,⟨_,hn',λj y v' e1 e2 e3=> ?_⟩,λy c e=> ?_,I.free,I.freeC,λp hp=> ?_,tracked ⟨oL,hoL,I.free⟩ hs,by simpa using I.len⟩ ⟨_,hs,.inl rfl⟩
  ·exact(hs.2 b (bN<|aV (aR e) I.ok.above)).trans<|I.base.keep b o e n hb hx
  ·obtain⟨sl,e1⟩:=I.base.slot b o e n hb hx;exact⟨sl,(hs.2 b (bN<|aV (aR e) I.ok.above)).trans e1⟩
  ·obtain⟨o',e1⟩:=I.base.there b o e hx;exact⟨o',(hs.2 b (bN<|aV (aR e) I.ok.above)).trans e1⟩
  ·by_cases hj:j=i
   ·subst hj;rw[hi] at e1;cases e1;rw[fX hiσ] at e2;cases e2;exact⟨u,r,.inl ⟨hk,by simp⟩⟩
   ·rw[iT<|Ne.symm hj] at e2;obtain⟨u',r',q⟩:=hl j y v' e1 e2 e3;refine⟨u',r', ?_⟩
    rcases q with⟨k,e⟩|⟨k,c,e,z⟩
    ·refine .inl ⟨k, ?_⟩;have:y≠x:=λe=>hj (uS hN e1<|e▸hi)
     simp[this,e]
    ·exact .inr ⟨k,c,e,z.sameBut hs<|cne y c e⟩
  ·obtain⟨w',z⟩:=I.cell y c e;exact⟨w',z.sameBut hs<|cne y c e⟩
  ·obtain⟨e,n,ne,nf,d⟩:=I.pin p hp;exact⟨(hs.2 p.1 ne).trans e,n,ne,nf,d⟩
 ·have hfn:X.fn x=true:=by
   rcases hf with z|z
   ·exact z
   ·rw[z] at hk;cases hk
  obtain⟨c,hc⟩:=I.ok.has x<|.inl hk;obtain⟨w',z⟩:=I.cell x c hc;refine wpAny_storeName_cell I.ok.kind hk hc z λh' hc' hs=> ?_;obtain⟨oc,hoc,hocd⟩:=id z;refine h {s with heap:=h'} ⟨I.ok,I.os,I.bare,⟨λb o e n hb hx=> ?_,λb o e n hb hx=> ?_,I.base.free,λb o e hx=> ?_,I.base.tups,I.base.frzs,I.base.tbls⟩,⟨m,hn.sameBut hs (Ne.symm<|cne x c hc),λj y v' e1 e2 e3=> ?_⟩,λy c' e=> ?_,I.free,I.freeC,λp hp=> ?_,tracked ⟨oc,hoc,I.freeC x c hc⟩ hs,by simpa using I.len⟩ ⟨c,hs,.inr hc⟩
  ·exact(hs.2 b<|bN (aV (aR e)<|I.ok.cab x c hfn hc)).trans<|I.base.keep b o e n hb hx
  ·obtain⟨sl,e1⟩:=I.base.slot b o e n hb hx;exact⟨sl,(hs.2 b<|bN (aV (aR e)<|I.ok.cab x c hfn hc)).trans e1⟩
  ·obtain⟨o',e1⟩:=I.base.there b o e hx;exact⟨o',(hs.2 b<|bN (aV (aR e)<|I.ok.cab x c hfn hc)).trans e1⟩
  ·by_cases hj:j=i
   ·subst hj;rw[hi] at e1;cases e1;rw[fX hiσ] at e2;cases e2;exact⟨u,r,.inr ⟨.inl hk,c,hc,hc'⟩⟩
   ·rw[iT<|Ne.symm hj] at e2;obtain⟨u',r',q⟩:=hl j y v' e1 e2 e3;refine⟨u',r', ?_⟩
    rcases q with q|⟨k,c',e,z'⟩
    ·exact .inl q
    ·refine .inr ⟨k,c',e,z'.sameBut hs ?_⟩;rintro rfl;exact hj (uS hN e1<|I.ok.inj _ _ _ e hc▸hi)
  ·by_cases hcc:c'=c
   ·subst hcc;exact⟨_,hc'⟩
   ·obtain⟨w2,z2⟩:=I.cell y c' e;exact⟨w2,z2.sameBut hs hcc⟩
  ·obtain⟨e,n,ne,nf,d⟩:=I.pin p hp;refine⟨(hs.2 p.1 ?_).trans e,n,ne,nf,d⟩;intro q;rw[q,hoc] at e;have q':oc=p.2:=bS.inj e;exact d w' (by rw[<-q'];exact hocd)
theorem rY{M:Model}{A:BH}{E:BE->BF->Prop}{i:Nat}{x:Str}{v:V}{u:BE}{Q:Unit->BF->Prop}(I:Inv X pins σ H s)(hN:X.N.Nodup)(hi:X.N[i]? =some x)(hx:Loc X.env.scope x)(r:RelV v u)
  (h:∀s',Inv X pins (σ.set i (some v)) H s'->Q () s') (hf:X.fn x=true\/X.env.scope.names.lookup x=some .local:=by first|exact .inl rfl|exact .inr rfl|assumption):AK M A (storeName X.env x u) Q E s:=
 aDX I hN hi hx r (λs' I' _=>h s' I') hf
theorem Inv.call'{s':BF}{ch:List BG}(I:Inv X pins σ H s)(ho:s'.os=s.os)(u:Un (frs X.stack) ch H H' s.heap s'.heap)(hok:HOk X.prog X.w H' s'.heap)(hg:AllBare s'.gens)
  (hch:∀b∈ch,(b∈X.ex\/X.s₀.heap.objs.size<=b)/\b≠X.env.locals/\(∀x c,X.env.cells.lookup x=some c->c≠b)/\∀p∈X.pn++pins,p.1≠b):Inv X pins σ H' s':=by
 obtain⟨h',g',d',t',o'⟩:=s';have e:o'=s.os:=ho;subst e;exact I.call (g':=g') (t':=t') (d':=d') u hok hg hch
noncomputable abbrev XK:=BE->Option BG->Hp->Prop
noncomputable abbrev St:=List<|Option V
noncomputable abbrev VK:=V->Hp->Prop
noncomputable abbrev TE:=St->Hp->VK->Prop
noncomputable abbrev TT:=St->Hp->(Bool->Hp->Prop)->Prop
noncomputable abbrev TA:=St->Hp->(List V->Hp->Prop)->Prop
structure tT where
 nx:St->Hp->Prop
 rt:VK
 bk:St->Hp->Prop:=λ_ _=>False
 ct:St->Hp->Prop:=λ_ _=>False
noncomputable abbrev TS:=tT->St->Hp->Prop
def EP(X:Cx)(pins:List (BG×BJ))(σ:St)(Q:VK)(u:BE)(s':BF):Prop:=∃v H',Inv X pins σ H' s'/\RelV v u/\Q v H'
def TP(X:Cx)(pins:List (BG×BJ))(σ:St)(Q:Bool->Hp->Prop)(b:Bool)(s':BF):Prop:=∃H',Inv X pins σ H' s'/\Q b H'
def AP(X:Cx)(pins:List (BG×BJ))(σ:St)(Q:List V->Hp->Prop)(us:List BE)(s':BF):Prop:=∃vs H',Inv X pins σ H' s'/\Vals vs us/\Q vs H'
def SP(X:Cx)(pins:List (BG×BJ))(D:tT)(f:Flow)(s':BF):Prop:=
 match f with
 |.next=>∃σ' H',Inv X pins σ' H' s'/\D.nx σ' H'
 |.brk=>∃σ' H',Inv X pins σ' H' s'/\D.bk σ' H'
 |.cont=>∃σ' H',Inv X pins σ' H' s'/\D.ct σ' H'
 |.ret u=>∃v σ' H',Inv X pins σ' H' s'/\RelV v u/\D.rt v H'
def PE(X:Cx)(e:Expr)(t:TE):Prop:=
 ∀ (pins:List (BG×BJ)) (s:BF) (σ:St) (H:Hp) (Q:VK),Inv X pins σ H s->t σ H Q->AK (AH X.prog X.w) X.A (eval e X.env) (EP X pins σ Q) X.xe s
def PT(X:Cx)(e:Expr)(t:TT):Prop:=
 ∀ (pins:List (BG×BJ)) (s:BF) (σ:St) (H:Hp) (Q:Bool->Hp->Prop),Inv X pins σ H s->t σ H Q->AK (AH X.prog X.w) X.A (isTrue e X.env<|eval e X.env) (TP X pins σ Q) X.xe s
def PW(X:Cx)(e:Expr)(t:TT):Prop:=
 ∀ (whole:Sem BE) (pins:List (BG×BJ)) (s:BF) (σ:St) (H:Hp) (Q:Bool->Hp->Prop),Inv X pins σ H s->t σ H Q->AK (AH X.prog X.w) X.A (isTrue e X.env whole) (TP X pins σ Q) X.xe s
theorem PW.pt{e:Expr}{t:TT}(h:PW X e t):PT X e t:=h _
def PA(X:Cx)(es:List Expr)(t:TA):Prop:=
 ∀ (pos:Pos) (pins:List (BG×BJ)) (s:BF) (σ:St) (H:Hp) (Q:List V->Hp->Prop),Inv X pins σ H s->t σ H Q->AK (AH X.prog X.w) X.A (spliced (Af pos<|AC es X.env)) (AP X pins σ Q) X.xe s
def PS(X:Cx)(st:BK)(t:TS):Prop:=
 ∀ (pins:List (BG×BJ)) (s:BF) (σ:St) (H:Hp) (D:tT),Inv X pins σ H s->t D σ H->AK (AH X.prog X.w) X.A (exec st X.env) (SP X pins D) X.xe s
def PSs(X:Cx)(st:List BK)(t:TS):Prop:=
 ∀ (pins:List (BG×BJ)) (s:BF) (σ:St) (H:Hp) (D:tT),Inv X pins σ H s->t D σ H->AK (AH X.prog X.w) X.A (execs st X.env) (SP X pins D) X.xe s
theorem thn{α:Type}{t:Sem α}{Q Q':α->BF->Prop}{M:Model}{A:BH}{E:BE->BF->Prop}(h:AK M A t Q E s)(hQ:∀a s,Q a s->Q' a s):AK M A t Q' E s:=AY h hQ λ_ _ x=>x
noncomputable def jO(i:Nat):TE:=λσ H Q=>∃v,σ[i]? =some (some v)/\Q v H
noncomputable def tC(v:V):TE:=λ_ H Q=>Q v H
theorem aMw{i:Nat}{x:Str}{pos:Pos}(hN:X.N[i]? =some x)(hv:Vis X.env.scope x)(hd:(x==("__debug__":Str))=false:=by decide)(hcd:(x==("__classdict__":Str))=false:=by decide):PE X (.Name x pos) (jO i):=by
 intro pins s σ H Q I h;obtain⟨v,e,h⟩:=h;obtain⟨m,hn,hl⟩:=I.loc;obtain⟨u,r,l⟩:=hl i x v hN e hv;have fin:EP X pins σ Q u s:=⟨v,H,I,r,h⟩
 rcases l with⟨hk,hm⟩|⟨hk,c,hc,hcell⟩
 ·exact wpAny_Name (wpAny_loadName_local I.ok.kind hk hn hm fin) hd
 ·rcases hk with hk|hk
  ·exact wpAny_Name (wpAny_loadName_cell I.ok.kind hk hc hcell fin) hd
  ·exact wpAny_Name (wpAny_loadName_free I.ok.kind hk hc hcell fin hcd) hd
theorem pe_int{i j pos}:PE X (.Constant (.int i) j pos) (tC<|.int i):=λ_ _ _ H _ I h=>wpAny_Constant_int ⟨.int i,H,I.tok _,⟨_,rfl⟩,h⟩
theorem pe_bl{b j pos}:PE X (.Constant (.bool b) j pos) (tC<|.bl b):=λ_ _ _ H _ I h=>Constant_bool ⟨.bl b,H,I,rfl,h⟩
theorem pe_non{j pos}:PE X (.Constant .none j pos) (tC .non):=λ_ _ _ H _ I h=>Constant_none ⟨.non,H,I,rfl,h⟩
theorem pe_str{x j pos}:PE X (.Constant (.str x) j pos) (tC<|.str x):=λ_ _ _ H _ I h=>Calls.Constant_str ⟨.str x,H,I.tok _,⟨_,rfl⟩,h⟩
def Gl(X:Cx)(x:Str):Prop:=X.env.kindOf x=some .globalImplicit
theorem rE{E:BE->BF->Prop}{σ:St}{x:Str}{u:BE}{pos:Pos}{Q:BE->BF->Prop}(I:Inv X pins σ H s)(hg:Gl X x)(hm:X.mg x=some u)(h:Q u s)
  (hd:(x==("__debug__":Str))=false:=by decide):AK (AH X.prog X.w) X.A (eval (.Name x pos) X.env) Q E s:=
 Calls.Name_function_global I.ok.kind hg (Calls.loadGlobal_global (by rw[I.ok.glob];exact I.mod.glob.keeps I.bk) hm h) hd
theorem oO{E:BE->BF->Prop}{σ:St}{x:Str}{u:BE}{pos:Pos}{Q:BE->BF->Prop}(I:Inv X pins σ H s)(hg:Gl X x)(hm:X.mg x=none)(hv:Ae x=some u)(h:Q u s)
  (hn:x≠"__name__":=by decide) (hd:(x==("__debug__":Str))=false:=by decide):AK (AH X.prog X.w) X.A (eval (.Name x pos) X.env) Q E s:=by
 obtain⟨mb,h1,h2⟩:=I.mod.blt;exact Calls.Name_function_global I.ok.kind hg (Calls.loadGlobal_builtin (by rw[I.ok.glob];exact I.mod.glob.keeps I.bk) hm (by rw[I.ok.blt];exact h1.keeps I.bk) ((h2 x hn).trans hv) h) hd
theorem mU{x:Str}{v:V}{u:BE}{pos:Pos}(hg:Gl X x)(hm:X.mg x=some u)(r:RelV v u)(hd:(x==("__debug__":Str))=false:=by decide):PE X (.Name x pos) (tC v):=
 λ_ _ _ H _ I h=>rE I hg hm ⟨v,H,I,r,h⟩ hd
theorem aJQ{x:Str}{v:V}{u:BE}{pos:Pos}(hg:Gl X x)(hm:X.mg x=none)(hv:Ae x=some u)(r:RelV v u)(hn:x≠"__name__":=by decide)(hd:(x==("__debug__":Str))=false:=by decide):PE X (.Name x pos) (tC v):=
 λ_ _ _ H _ I h=>oO I hg hm hv ⟨v,H,I,r,h⟩ hn hd
def t2I(ta tb:TE)(k:Int->Int->Hp->Prop):St->Hp->Prop:=λσ H=>ta σ H λx H1=>tb σ H1 λy H2=>∃i j,x=.int i/\y=.int j/\k i j H2
variable {a b:Expr}{ta tb:TE}{pos:Pos}
noncomputable def aKp(p:Int->Int->Bool)(ta tb:TE):TE:=λσ H Q=>t2I ta tb (λi j H2=>Q (.bl<|p i j) H2) σ H
noncomputable abbrev tLt:TE->TE->TE:=aKp λi j=>decide<|i<j
noncomputable abbrev tLe:TE->TE->TE:=aKp λi j=>decide<|i<=j
noncomputable abbrev tGt:TE->TE->TE:=aKp λi j=>decide<|j<i
noncomputable abbrev tGe:TE->TE->TE:=aKp λi j=>decide<|j<=i
noncomputable abbrev tEqI:TE->TE->TE:=aKp λi j=>decide<|i=j
noncomputable abbrev tNeI:TE->TE->TE:=aKp λi j=> !decide (i=j)
noncomputable def tB(t:TE):TT:=λσ H Q=>t σ H λx H1=>∃c,x=.bl c/\Q c H1
theorem aMj{e:Expr}{t:TE}(h:PE X e t)(he:∀whole,isTrue e X.env whole=(do let v <-whole;standAt e.pos;holding [v] (truthy v)):=by intro _;rfl):PT X e (tB t):=by intro pins s σ H Q I hw;refine isTrue_plain (thn (h pins s σ H _ I hw) λv s1 ⟨x,H1,I1,r1,q1⟩=> ?_)<|he _;obtain⟨d,rfl,q⟩:=q1;cases r1;exact AZ ⟨H1,I1,q⟩
variable {tA tB':TT}{rest:List Expr}
noncomputable def tAnd(t u:TT):TT:=λσ H Q=>t σ H λc H1=>if c=true then u σ H1 Q else Q false H1
noncomputable def tOr(t u:TT):TT:=λσ H Q=>t σ H λc H1=>if c=true then Q true H1 else u σ H1 Q
noncomputable def tNot(t:TT):TT:=λσ H Q=>t σ H λc H1=>Q (!c) H1
theorem aIY(ha:PT X a tA):PW X (.BoolOp .And [a] pos) tA:=by
 intro wh pins s σ H Q I h;refine isTrue_and<|thn (ha pins s σ H Q I h) λc s1 e=> ?_;cases c with
 |true=>exact isTrue_and_nil e
 |false=>exact e
theorem aMJ(ha:PT X a tA):PW X (.BoolOp .Or [a] pos) tA:=by
 intro wh pins s σ H Q I h;refine isTrue_or<|thn (ha pins s σ H Q I h) λc s1 e=> ?_;cases c with
 |false=>exact isTrue_or_nil e
 |true=>exact e
theorem aMH(ha:PT X a tA)(hb:PW X (.BoolOp .And (b::rest) pos) tB'):PW X (.BoolOp .And (a::b::rest) pos) (tAnd tA tB'):=by
 intro wh pins s σ H Q I h;refine isTrue_and<|thn (ha pins s σ H _ I h) λc s1 ⟨H1,I1,q1⟩=> ?_;cases c with
 |true=>exact hb wh pins s1 σ H1 Q I1 q1
 |false=>exact⟨H1,I1,q1⟩
theorem aOh(ha:PT X a tA)(hb:PW X (.BoolOp .Or (b::rest) pos) tB'):PW X (.BoolOp .Or (a::b::rest) pos) (tOr tA tB'):=by
 intro wh pins s σ H Q I h;refine isTrue_or<|thn (ha pins s σ H _ I h) λc s1 ⟨H1,I1,q1⟩=> ?_;cases c with
 |true=>exact⟨H1,I1,q1⟩
 |false=>exact hb wh pins s1 σ H1 Q I1 q1
theorem aLQ(ha:PT X a tA):PT X (.UnaryOp .Not a pos) (tNot tA):=by intro pins s σ H Q I h;exact isTrue_not<|ha pins s σ H (λc H1=>Q (!c) H1) I h
noncomputable def aOp(ta tb:TE):TE:=λσ H Q=>ta σ H λx H1=>∃c,x=.bl c/\if c=true then tb σ H1 Q else Q (.bl false) H1
noncomputable def tOrV(ta tb:TE):TE:=λσ H Q=>ta σ H λx H1=>∃c,x=.bl c/\if c=true then Q (.bl true) H1 else tb σ H1 Q
noncomputable def aOj(ta:TE):TE:=λσ H Q=>ta σ H λx H1=>∃c,x=.bl c/\Q (.bl<|!c) H1
theorem aLB{op}{t:TE}(h:PE X a t):PE X (.BoolOp op [a] pos) t:=λpins s σ H Q I hw=>BoolOp_one<|h pins s σ H Q I hw
theorem aMd(ha:PE X a ta)(hb:PE X (.BoolOp .And (b::rest) pos) tb):PE X (.BoolOp .And (a::b::rest) pos) (aOp ta tb):=by
 intro pins s σ H Q I h;refine BoolOp_and<|thn (ha pins s σ H _ I h) λv s1 ⟨x,H1,I1,r1,q1⟩=> ?_;obtain⟨c,rfl,q1⟩:=q1;cases r1;refine AZ ?_;cases c with
 |true=>exact hb pins s1 σ H1 Q I1 q1
 |false=>exact⟨.bl false,H1,I1,rfl,q1⟩
theorem aNR(ha:PE X a ta)(hb:PE X (.BoolOp .Or (b::rest) pos) tb):PE X (.BoolOp .Or (a::b::rest) pos) (tOrV ta tb):=by
 intro pins s σ H Q I h;refine BoolOp_or<|thn (ha pins s σ H _ I h) λv s1 ⟨x,H1,I1,r1,q1⟩=> ?_;obtain⟨c,rfl,q1⟩:=q1;cases r1;refine AZ ?_;cases c with
 |false=>exact hb pins s1 σ H1 Q I1 q1
 |true=>exact⟨.bl true,H1,I1,rfl,q1⟩
theorem aLP(ha:PE X a ta):PE X (.UnaryOp .Not a pos) (aOj ta):=by intro pins s σ H Q I h;refine UnaryOp_<|thn (ha pins s σ H _ I h) λv s1 ⟨x,H1,I1,r1,q1⟩=> ?_;obtain⟨c,rfl,q1⟩:=q1;cases r1;exact not_of<|AZ ⟨.bl<|!c,H1,I1,rfl,q1⟩
def SqL(K:aB)(H:Hp)(a:BG)(xs:List V):Prop:=
 Rd H a (.lst xs)\/
  ∃ (o:BJ) (its:Array BE) (n:Nat),K.lookup a=some o/\o.cls=.type "list"/\o.dict=none/\o.data=.seq its n/\its.size<=AL/\Vals xs its.toList
def SqT(K:aB)(H:Hp)(a:BG)(xs:List V):Prop:=
 Rd H a (.tup xs)\/
  ∃ (o:BJ) (its:Array BE) (n:Nat),K.lookup a=some o/\o.cls=.type "tuple"/\o.data=.seq its n/\its.size<=AL/\Vals xs its.toList
noncomputable def absV:BE->Option V
 |.none=>some .non
 |.bool b=>some<|.bl b
 |.int i _=>some<|.int i
 |.str x _=>some<|.str x
 |.bytes b _=>some<|.byt b
 |.float b _=>some<|.flt b
 |.ref a=>some<|.ref a
 |.type n=>some<|.ty n
 |_=>none
theorem RelV.abs{x:V}{u:BE}(r:RelV x u):absV u=some x:=by
 cases x with
 |non=>cases r;rfl
 |bl _=>cases r;rfl
 |int _=>obtain⟨t,rfl⟩:=r;rfl
 |str _=>obtain⟨t,rfl⟩:=r;rfl
 |byt _=>obtain⟨t,rfl⟩:=r;rfl
 |flt _=>obtain⟨t,rfl⟩:=r;rfl
 |ref _=>cases r;rfl
 |ty _=>cases r;rfl
theorem RelV.inj{x y:V}{u:BE}(r:RelV x u)(q:RelV y u):x=y:=bS.inj<|r.abs.symm.trans q.abs
theorem Vals.inj:∀ {xs ys:List V}{us:List BE},Vals xs us->Vals ys us->xs=ys
 |_,_,_,.nil,.nil=>rfl
 |_,_,_,.cons r t,.cons r' t'=>by rw[r.inj r',Vals.inj t t']
variable {σ:St}{a:BG}{xs ys:List V}
theorem SqL.of{K:aB}(h:H a=some (.lst xs)):SqL K H a xs:=.inl<|.inl h
theorem SqT.of{K:aB}(h:H a=some (.tup xs)):SqT K H a xs:=.inl<|.inl h
theorem Inv.list(I:Inv X pins σ H s)(h:SqL X.K H a xs):∃its:List BE,Vals xs its/\PlainL s.heap a its.toArray/\xs.length<=AL:=by
 rcases h with h|⟨o,its,n,hk,hc,hd,hs,hz,r⟩
 ·obtain⟨z,its,n,r,e⟩:=h.ok I.hok;exact⟨its,r,⟨_,n,e,rfl,rfl,rfl⟩,z⟩
 ·refine⟨its.toList,r,⟨o,n,I.kIn a o hk,hc,hd,by simpa using hs⟩, ?_⟩;have e:=r.length;simp only[bZ] at e;omega
theorem Inv.tuple(I:Inv X pins σ H s)(h:SqT X.K H a xs):∃its:List BE,Vals xs its/\IsTup s.heap a its.toArray/\xs.length<=AL:=by
 rcases h with h|⟨o,its,n,hk,hc,hs,hz,r⟩
 ·obtain⟨z,its,r,p⟩:=h.ok I.hok;exact⟨its,r,p.tup,z⟩
 ·refine⟨its.toList,r,⟨o,I.kIn a o hk,hc,n,by simpa using hs⟩, ?_⟩;have e:=r.length;simp only[bZ] at e;omega
theorem Inv.list_inj(I:Inv X pins σ H s)(h:SqL X.K H a xs)(h':SqL X.K H a ys):xs=ys:=by
 obtain⟨its,r,⟨o,n,e,_,_,d⟩,_⟩:=I.list h;obtain⟨its',r',⟨o',n',e',_,_,d'⟩,_⟩:=I.list h';rw[e] at e';cases e';rw[d] at d';injection d' with d1 _
 have:its=its':=by simpa using congrArg aNl d1
 subst this;exact r.inj r'
theorem Inv.tuple_inj(I:Inv X pins σ H s)(h:SqT X.K H a xs)(h':SqT X.K H a ys):xs=ys:=by
 obtain⟨its,r,⟨o,e,_,n,d⟩,_⟩:=I.tuple h;obtain⟨its',r',⟨o',e',_,n',d'⟩,_⟩:=I.tuple h';rw[e] at e';cases e';rw[d] at d';injection d' with d1 _
 have:its=its':=by simpa using congrArg aNl d1
 subst this;exact r.inj r'
noncomputable abbrev Cx.wish(X:Cx)(E:BE->BF->Prop):Cx:={X with xe:=E}
noncomputable abbrev Cx.nox(X:Cx):Cx:=X.wish λ_ _=>False
theorem Cx.Ok.wish(ok:X.Ok)(E:BE->BF->Prop):(X.wish E).Ok:=
 ⟨ok.mod,ok.kind,ok.glob,ok.blt,ok.above,ok.inj,ok.has,ok.cab,ok.hd,ok.frames,ok.stk,ok.exf,ok.bs,ok.bsz,ok.noex,ok.exfs,ok.funs,ok.frf⟩
theorem Cx.Ok.unwish{E:BE->BF->Prop}(ok:(X.wish E).Ok):X.Ok:=
 ⟨ok.mod,ok.kind,ok.glob,ok.blt,ok.above,ok.inj,ok.has,ok.cab,ok.hd,ok.frames,ok.stk,ok.exf,ok.bs,ok.bsz,ok.noex,ok.exfs,ok.funs,ok.frf⟩
variable {E:BE->BF->Prop}
theorem Inv.wish(I:Inv X pins σ H s)(E:BE->BF->Prop):Inv (X.wish E) pins σ H s:=⟨I.ok.wish E,I.os,I.bare,I.base,I.loc,I.cell,I.free,I.freeC,I.pin,I.hok,I.len⟩
theorem Inv.unwish(I:Inv (X.wish E) pins σ H s):Inv X pins σ H s:=⟨I.ok.unwish,I.os,I.bare,I.base,I.loc,I.cell,I.free,I.freeC,I.pin,I.hok,I.len⟩
theorem SP.unwish{D:tT}{f:Flow}{s':BF}(h:SP (X.wish E) pins D f s'):SP X pins D f s':=by
 cases f with
 |next=>obtain⟨σ',H',I,q⟩:=h;exact⟨σ',H',I.unwish,q⟩
 |brk=>obtain⟨σ',H',I,q⟩:=h;exact⟨σ',H',I.unwish,q⟩
 |cont=>obtain⟨σ',H',I,q⟩:=h;exact⟨σ',H',I.unwish,q⟩
 |ret u=>obtain⟨v,σ',H',I,r,q⟩:=h;exact⟨v,σ',H',I.unwish,r,q⟩
theorem PSs.nox{st:List BK}{t:TS}(h:PSs X.nox st t):PSs X st t:=λpins s σ H D I hw=>AY (h pins s σ H D (I.wish _) hw) (λ_ _ q=>q.unwish) λ_ _ z=>False.elim z
variable {st:BK}{rest:List BK}{t u:TS}{e:Expr}{te:TE}
noncomputable def aNU:TS:=λD σ H=>D.nx σ H
noncomputable def tSeq(t u:TS):TS:=λD σ H=>t {D with nx:=u D} σ H
theorem pss_nil:PSs X [] aNU:=λ_ _ σ H _ I h=>wpAny_execs_nil ⟨σ,H,I,h⟩
theorem aGb(h1:PS X st t)(h2:PSs X rest u):PSs X (st::rest) (tSeq t u):=by
 intro pins s σ H D I h;refine wpAny_execs_cons<|thn (h1 pins s σ H {D with nx:=u D} I h) λf s1 q=> ?_;cases f with
 |next=>obtain⟨σ',H',I',q⟩:=q;exact h2 pins s1 σ' H' D I' q
 |ret v=>exact q
 |brk=>exact q
 |cont=>exact q
theorem aIX(h1:PS X st t):PSs X [st] t:=by
 intro pins s σ H D I h;refine wpAny_execs_cons<|thn (h1 pins s σ H D I h) λf s1 q=> ?_;cases f with
 |next=>exact wpAny_execs_nil q
 |ret v=>exact q
 |brk=>exact q
 |cont=>exact q
theorem Inv.quiet(I:Inv X pins σ H s):interactive X.env=false:=by simp[interactive,I.ok.kind]
noncomputable def aOm(te:TE):TS:=λD σ H=>te σ H λ_ H1=>D.nx σ H1
theorem pE(he:PE X e te)(hs:AX e none pos.line X.env=pure false:=by rfl):PS X (.Expr e pos) (aOm te):=by intro pins s σ H D I h;exact wpAny_Expr_any (thn (he pins s σ H _ I h) λv s1 ⟨x,H1,I1,r1,q1⟩=>⟨σ,H1,I1,q1⟩) I.quiet hs
noncomputable def tRet(te:TE):TS:=λD σ H=>te σ H D.rt
theorem aGJ(he:PE X e te):PS X (.Return (some e) pos) (tRet te):=by intro pins s σ H D I h;exact wpAny_Return_some<|thn (he pins s σ H _ I h) λv s1 ⟨x,H1,I1,r1,q1⟩=>⟨x,σ,H1,I1,r1,q1⟩
noncomputable def tIfS(c:TT)(t u:TS):TS:=λD σ H=>c σ H λb H1=>if b=true then t D σ H1 else u D σ H1
theorem aNS{c:Expr}{a b:List BK}{tc:TT}(hc:PT X c tc)(ha:PSs X a t)(hb:PSs X b u):PS X (.If c a b pos) (tIfS tc t u):=by
 intro pins s σ H D I h;refine wpAny_If<|thn (hc pins s σ H _ I h) λd s1 ⟨H1,I1,q1⟩=> ?_;cases d with
 |true=>exact ha pins s1 σ H1 D I1 q1
 |false=>exact hb pins s1 σ H1 D I1 q1
noncomputable abbrev TG:=V->St->Hp->(St->Hp->Prop)->Prop
noncomputable abbrev TGs:=List V->St->Hp->(St->Hp->Prop)->Prop
def PG(X:Cx)(target:Expr)(t:TG):Prop:=
 ∀ (pins:List (BG×BJ)) (s:BF) (σ:St) (H:Hp) (v:V) (u:BE) (Q:St->Hp->Prop),Inv X pins σ H s->RelV v u->t v σ H Q->
  AK (AH X.prog X.w) X.A (assign target X.env u) (λ_ s'=>∃σ' H',Inv X pins σ' H' s'/\Q σ' H') X.xe s
def PGs(X:Cx)(ts:List Expr)(t:TGs):Prop:=
 ∀ (pins:List (BG×BJ)) (s:BF) (σ:St) (H:Hp) (vs:List V) (us:List BE) (Q:St->Hp->Prop),Inv X pins σ H s->Vals vs us->t vs σ H Q->
  AK (AH X.prog X.w) X.A (assignInOrder ((assignEach ts X.env).map (·.2)) us) (λ_ s'=>∃σ' H',Inv X pins σ' H' s'/\Q σ' H') X.xe s
noncomputable abbrev TSet:=V->V->V->Hp->(Hp->Prop)->Prop
noncomputable abbrev TIp:=V->V->Hp->VK->Prop
noncomputable def aCj(i:Nat):TG:=λv σ H Q=>Q (σ.set i (some v)) H
theorem aDt{i:Nat}{x:Str}(hN:X.N.Nodup)(hi:X.N[i]? =some x)(hx:Loc X.env.scope x)(hf:X.fn x=true\/X.env.scope.names.lookup x=some .local:=by first|exact .inl rfl|exact .inr rfl|assumption):PG X (.Name x pos) (aCj i):=by intro pins s σ H v u Q I r h;exact wpAny_assign_Name<|rY I hN hi hx r (λs' I'=>⟨_,H,I',h⟩) hf
noncomputable def aOt:TGs:=λvs σ H Q=>vs=[]/\Q σ H
noncomputable def aKQ(t:TG)(u:TGs):TGs:=λvs σ H Q=>∃v r,vs=v::r/\t v σ H λσ' H'=>u r σ' H' Q
theorem jY:PGs X [] aOt:=by intro pins s σ H vs us Q I r h;obtain⟨e,h⟩:=h;subst e;cases r;exact assignInOrder_nil ⟨σ,H,I,h⟩
theorem dZ{es:List Expr}{t:TG}{u:TGs}(h1:PG X e t)(h2:PGs X es u)
  (hs:(assignEach (e::es) X.env).map (·.2)=assign e X.env::(assignEach es X.env).map (·.2):=by rfl):PGs X (e::es) (aKQ t u):=by
 intro pins s σ H vs us Q I r h;obtain⟨v,vr,e1,h⟩:=h;subst e1;cases r with
 |cons r rr=>rw[hs];refine assignInOrder_cons<|thn (h1 pins s σ H _ _ _ I r h) λ_ s1 ⟨σ1,H1,I1,q1⟩=> ?_;exact h2 pins s1 σ1 H1 _ _ Q I1 rr q1
noncomputable def gTup(K:aB)(n:Nat)(t:TGs):TG:=λv σ H Q=>∃a xs,v=.ref a/\SqT K H a xs/\xs.length=n/\t xs σ H Q
theorem aMm{es:List Expr}{k:Nat}{t:TGs}{n:Nat}(hc:X.calm=true)(h:PGs X es t)
  (hn:(assignEach es X.env).length=n:=by rfl) (hst:(assignEach es X.env).findIdx? (·.1)=none:=by rfl):PG X (.Tuple es k pos) (gTup X.K n t):=by
 intro pins s σ H v u Q I r hw;obtain⟨a,xs,e1,hq,hl,hw⟩:=hw;subst e1;cases r;obtain⟨its,rv,ht,hz⟩:=I.tuple hq;refine assign_Tuple_tuple (I.ok.hd hc) ht (by simp[hn,<-hl,rv.length]) hst λh' hx=> ?_
 have I1:Inv X pins σ H {s with heap:=h'}:=I.kept (t':=s.toks) λb o e=>hx b o (bN<|aR e) e
 exact h pins _ σ H xs _ Q I1 (by simpa using rv) hw
noncomputable def tAsg(te:TE)(g:TG):TS:=λD σ H=>te σ H λx H1=>g x σ H1 D.nx
theorem nY{i:Nat}{x:Str}{pos':Pos}(hN:X.N.Nodup)(hi:X.N[i]? =some x)(hx:Loc X.env.scope x)(he:PE X e te)(hs:AX e (some<|.Name x pos') pos.line X.env=pure false:=by rfl)(hf:X.fn x=true\/X.env.scope.names.lookup x=some .local:=by first|exact .inl rfl|exact .inr rfl|assumption):
  PS X (.Assign [.Name x pos'] e pos) (tAsg te<|aCj i):=by
 intro pins s σ H D I h;refine wpAny_Assign_Name (thn (he pins s σ H _ I h) λv s1 ⟨y,H1,I1,r1,q1⟩=> ?_) hs;exact rY I1 hN hi hx r1 (λs2 I2=>⟨_,H1,I2,q1⟩) hf
noncomputable def aMD(c:TT)(tb:TS):TS:=λD σ H=>∃W:Nat->St->Hp->Prop,(∃m,W m σ H)/\∀m σ H,W m σ H->
 c σ H λb H1=>if b=true then ∃N:St->Hp->Prop,(∀σ' H',N σ' H'->∃m',m'<m/\W m' σ' H')/\tb {D with nx:=N,ct:=N,bk:=D.nx} σ H1 else D.nx σ H1
theorem aFw{c:Expr}{body:List BK}{tc:TT}{tb:TS}(hp:PassesOwn (AH X.prog X.w) X.A X.env X.xe)(hc:PT X c tc)(hb:PSs X body tb):PS X (.While c body [] pos) (aMD tc tb):=by
 intro pins s σ H D I h;obtain⟨W,⟨m0,w0⟩,turn⟩:=h;refine wpAny_While<|codeAny_whileLoop (λn s'=>∃σ' H',Inv X pins σ' H' s'/\W n σ' H') ?_ m0 ⟨σ,H,I,w0⟩;rintro n s1 ⟨σ1,H1,I1,w1⟩;refine An hp<|thn (hc pins s1 σ1 H1 _ I1<|turn n σ1 H1 w1) λb s2 ⟨H2,I2,q2⟩=> ?_;cases b with
 |true=>
  obtain⟨N,hN,q2⟩:=q2;rw[if_pos rfl];refine An hp<|thn (hb pins s2 σ1 H2 _ I2 q2) λf s3 q3=> ?_;cases f with
  |next=>obtain⟨σ3,H3,I3,n3⟩:=q3;obtain⟨m',hm,w3⟩:=hN σ3 H3 n3;exact⟨m',hm,σ3,H3,I3,w3⟩
  |cont=>obtain⟨σ3,H3,I3,n3⟩:=q3;obtain⟨m',hm,w3⟩:=hN σ3 H3 n3;exact⟨m',hm,σ3,H3,I3,w3⟩
  |brk=>exact q3
  |ret v=>exact q3
 |false=>rw[if_neg bF];exact wpAny_execs_nil ⟨σ1,H2,I2,q2⟩
structure It where
 go:Nat->Hp->Prop
 yld:Nat->Hp->V->Hp->Prop
 stop:Nat->Hp->Prop
def wN(X:Cx)(pins:List (BG×BJ))(H:Hp)(b:BG):Prop:=
 H b=none/\b≠X.env.locals/\b∉X.fs/\(b∈X.ex\/X.s₀.heap.objs.size<=b)/\(∀x c,X.env.cells.lookup x=some c->c≠b)/\∀p∈X.pn++pins,p.1≠b
theorem Inv.fpOk{b:BG}(I:Inv X pins σ H s)(hb:s.heap.objs.size<=b)(hn:H' b=none):wN X pins H' b:=by
 refine⟨hn,jW<|aV I.lt hb,I.nofs hb,.inr<|cG I.sz hb,λx c e z=> ?_,λp hp z=> ?_⟩
 ·obtain⟨v,q⟩:=I.cell x c e;exact absurd (aV q.lt<|by rw[z];exact hb)<|eD _
 ·exact absurd (aV (aR (I.pin p hp).1)<|by rw[z];exact hb)<|eD _
structure aGE(P:AF)(w:AM)(K:aB)(tg:Expr)(J:It)(fp:List BG)(it:BG)(tn:Nat->BI->Prop):Prop where
 mem:it∈fp
 obj:∀i h,tn i h->∀b∈fp,∃o,h.get? b=some o/\∀v,o.data≠ .cell v
 keep:∀i h h',tn i h->(∀b∈fp,∀o,h.get? b=some o->h'.get? b=some o)->tn i h'
 item:∀ (X:Cx),X.prog=P->X.w=w->X.K=K->X.calm=true->∀ (i:Nat) (pins:List (BG×BJ)) (s:BF) (σ:St) (H:Hp) (E:BE->BF->Prop),Inv X pins σ H s->(∀b∈fp,wN X pins H b)->tn i s.heap->J.go i H->
  AK (AH P w) X.A (pyNext (.ref it)) (fun r s1=>∃u,r=some u∧
   AK (AH P w) X.A (letOwnedTupleGo tg (.ref it) u) (λ_ s2=>∃x H',Inv X pins σ H' s2/\RelV x u/\J.yld i H x H'/\tn (i+1) s2.heap/\∀b∈fp,H' b=none) E s1) E s
 done:∀ (X:Cx),X.prog=P->X.w=w->X.K=K->X.calm=true->∀ (i:Nat) (pins:List (BG×BJ)) (s:BF) (σ:St) (H:Hp) (E:BE->BF->Prop),Inv X pins σ H s->(∀b∈fp,wN X pins H b)->tn i s.heap->J.stop i H->
  AK (AH P w) X.A (pyNext<|.ref it) (λr s1=>r=none/\Inv X pins σ H s1) E s
 self:∀ (A:BH) (i:Nat) (s:BF) (Q:BE->BF->Prop) (E:BE->BF->Prop),tn i s.heap->Q (.ref it) s->AK (AH P w) A (pyIter<|.ref it) Q E s
noncomputable abbrev TI:=St->Hp->(It->Hp->Prop)->Prop
def PIE(X:Cx)(pins:List (BG×BJ))(σ:St)(tg:Expr)(R:It->Hp->Prop)(itv:BE)(s2:BF):Prop:=
 ∃ (it:BG) (fp:List BG) (tn:Nat->BI->Prop) (J:It) (H':Hp),itv=.ref it/\Inv X pins σ H' s2/\aGE X.prog X.w X.K tg J fp it tn/\tn 0 s2.heap/\(∀b∈fp,wN X pins H' b)/\R J H'
def PI(X:Cx)(tg iter:Expr)(wi:TI):Prop:=
 ∀ (pins:List (BG×BJ)) (s:BF) (σ:St) (H:Hp) (R:It->Hp->Prop),Inv X pins σ H s->wi σ H R->
  AK (AH X.prog X.w) X.A (eval iter X.env) (λv s1=>AK (AH X.prog X.w) X.A (pyIter v) (PIE X pins σ tg R) X.xe s1) X.xe s
theorem aFq{M:Model}{A:BH}{tg:Expr}{it:BG}{u:BE}{o:BJ}{n:String}{vs:Array BE}{Q:Unit->BF->Prop}(ho:s.heap.get? it=some o)(hc:o.cls=.type n)(hd:o.data=.fields vs)
  (hn:["enumerate","zip","dict_itemiterator","dict_reverseitemiterator","odict_iterator","itertools.zip_longest","itertools.pairwise"].contains n=false) (hQ:Q () s):AK M A (letOwnedTupleGo tg (.ref it) u) Q E s:=by
 unfold letOwnedTupleGo
 cases tg<;>first
  |exact AB hQ
  | (cases u<;>first
    |exact AB hQ
    | (refine AA (wpAny_load ho ?_)
       rw[hc,hd];show AK M A (if(["enumerate","zip","dict_itemiterator","dict_reverseitemiterator","odict_iterator","itertools.zip_longest","itertools.pairwise"].contains n&&vs[0]? ==some (rawInt _))=true then _ else _) Q E s;rw[if_neg<|by intro h;rw[hn,pR] at h;cases h]
       exact AB hQ))
noncomputable def Itl(K:aB)(a:BG):It:=
 ⟨λi H=>∃xs x,SqL K H a xs/\xs[i]? =some x,λi H x H'=>H'=H/\∀xs,SqL K H a xs->xs[i]? =some x,λi H=>∃xs,SqL K H a xs/\xs.length<=i⟩
noncomputable def Itt(K:aB)(a:BG):It:=
 ⟨λi H=>∃xs x,SqT K H a xs/\xs[i]? =some x,λi H x H'=>H'=H/\∀xs,SqT K H a xs->xs[i]? =some x,λi H=>∃xs,SqT K H a xs/\xs.length<=i⟩
noncomputable def Itr(lo:Int)(n:Nat):It:=⟨λi _=>i<n,λi H x H'=>H'=H/\x=.int (lo+i),λi _=>n<=i⟩
theorem aEy{K:aB}{tg:Expr}(a it:BG):aGE P w K tg (Itl K a) [it] it (λi h=>h.IsListIter it a i) where
 mem:=by simp
 obj:=λi h st b hb=>by
  have e:b=it:=by simpa using hb
  subst e;obtain⟨o,e,c,d⟩:=st;exact⟨o,e,λv z=>by rw[d] at z;cases z⟩
 keep:=λi h h' st k=>st.at λo e=>k it (by simp) o e
 item:=by
  intro X hP hw hK hc i pins s σ H E I hf st hg;subst hP hw hK;obtain⟨xs,x,hq,hx⟩:=hg;obtain⟨its,rv,p,hz⟩:=I.list hq;obtain⟨u,hu,ru⟩:=rv.get hx;obtain⟨f0,f1,f2,f3,f4,f5⟩:=hf it (by simp);refine wpAny_pyNext_list_item st p.isList (x:=u) (by simpa using hu) λh' st' sb=> ?_
  have I1:Inv X pins σ H {s with heap:=h'}:=I.turned (t':=s.toks) (λb o hb e=>(sb.2 b hb).trans e) f0 f1 f3 f4 f5;obtain⟨o,e,c,d⟩:=id st';exact⟨u,rfl,aFq (s:={s with heap:=h'}) e c d (by decide) ⟨x,H,I1,ru,⟨rfl,λys hy=>by rw[I.list_inj hy hq];exact hx⟩,st',λb hb=>(hf b hb).1⟩⟩
 done:=by intro X hP hw hK hc i pins s σ H E I hf st hg;subst hP hw hK;obtain⟨xs,hq,hx⟩:=hg;obtain⟨its,rv,p,hz⟩:=I.list hq;obtain⟨f0,f1,f2,f3,f4,f5⟩:=hf it (by simp);have hl:=rv.length;exact wpAny_pyNext_list_end (I.ok.hd hc) st p.isList (by simp;omega) λh' eb=>⟨rfl,I.turned (t':=s.toks) (λb o hb e=>eb b o hb e) f0 f1 f3 f4 f5⟩
 self:=λ_ _ _ _ _ st h=>wpAny_pyIter_listiter st h
theorem aBy{K:aB}{tg:Expr}(a it:BG):aGE P w K tg (Itt K a) [it] it (λi h=>h.IsTupleIter it a i) where
 mem:=by simp
 obj:=λi h st b hb=>by
  have e:b=it:=by simpa using hb
  subst e;obtain⟨o,e,c,d⟩:=st;exact⟨o,e,λv z=>by rw[d] at z;cases z⟩
 keep:=λi h h' st k=>st.at λo e=>k it (by simp) o e
 item:=by
  intro X hP hw hK hc i pins s σ H E I hf st hg;subst hP hw hK;obtain⟨xs,x,hq,hx⟩:=hg;obtain⟨its,rv,p,hz⟩:=I.tuple hq;obtain⟨u,hu,ru⟩:=rv.get hx;obtain⟨f0,f1,f2,f3,f4,f5⟩:=hf it (by simp);refine wpAny_pyNext_tuple_item st (show s.heap.IsTuple a its.toArray from p) (x:=u) (by simpa using hu) λh' st' sb=> ?_
  have I1:Inv X pins σ H {s with heap:=h'}:=I.turned (t':=s.toks) (λb o hb e=>(sb.2 b hb).trans e) f0 f1 f3 f4 f5;obtain⟨o,e,c,d⟩:=id st';exact⟨u,rfl,aFq (s:={s with heap:=h'}) e c d (by decide) ⟨x,H,I1,ru,⟨rfl,λys hy=>by rw[I.tuple_inj hy hq];exact hx⟩,st',λb hb=>(hf b hb).1⟩⟩
 done:=by intro X hP hw hK hc i pins s σ H E I hf st hg;subst hP hw hK;obtain⟨xs,hq,hx⟩:=hg;obtain⟨its,rv,p,hz⟩:=I.tuple hq;obtain⟨f0,f1,f2,f3,f4,f5⟩:=hf it (by simp);have hl:=rv.length;exact wpAny_pyNext_tuple_end (I.ok.hd hc) st (show s.heap.IsTuple a its.toArray from p) (by simp;omega) λh' eb=>⟨rfl,I.turned (t':=s.toks) (λb o hb e=>eb b o hb e) f0 f1 f3 f4 f5⟩
 self:=λ_ _ _ _ _ st h=>wpAny_pyIter_tupleiter st h
theorem aBD{K:aB}{tg:Expr}(it:BG)(lo:Int)(n:Nat):aGE P w K tg (Itr lo n) [it] it (λi h=>IsRangeIter h it (lo+(i:Nat)*1) ((n:Int)-(i:Nat)) 1) where
 mem:=by simp
 obj:=λi h st b hb=>by
  have e:b=it:=by simpa using hb
  subst e
  exact ⟨_,st,fun v z=>by
   have z':Data.fields _=Data.cell v:=z
   cases z'⟩
 keep:=λi h h' st k=>k it (by simp) _ st
 item:=by
  intro X hP hw hK hc i pins s σ H E I hf st hg;subst hP hw hK;obtain⟨f0,f1,f2,f3,f4,f5⟩:=hf it (by simp);have W:=Walks.range (prog:=X.prog) (w:=X.w) (I.ok.hd hc) it lo 1 n;refine W.item i s _ _ hg st λv h' tk hv st' kk=> ?_
  obtain⟨t,rfl⟩:=hv;have I1:Inv X pins σ H {s with heap:=h',toks:=tk}:=I.turned (λb o hb e=>kk b o (by simpa using hb) e) f0 f1 f3 f4 f5;refine⟨_,rfl,aFq (s:={s with heap:=h',toks:=tk}) (n:="range_iterator") st' rfl rfl (by decide) ⟨.int<|lo+i,H,I1,⟨t, ?_⟩,⟨rfl,rfl⟩,st',λb hb=>(hf b hb).1⟩⟩;rw[Int.mul_one]
 done:=by intro X hP hw hK hc i pins s σ H E I hf st hg;subst hP hw hK;obtain⟨f0,f1,f2,f3,f4,f5⟩:=hf it (by simp);exact wpAny_pyNext_range_end (I.ok.hd hc) st (by have:n<=i:=hg;omega) λh' eb=>⟨rfl,I.turned (t':=s.toks) (λb o hb e=>eb b o hb e) f0 f1 f3 f4 f5⟩
 self:=λ_ _ _ _ _ st h=>wpAny_pyIter_rangeiter st h
variable {tg:Expr}
noncomputable def aOb(K:aB)(tl:TE):TI:=λσ H R=>tl σ H λx H1=>∃a,x=.ref a/\(∃xs,SqL K H1 a xs)/\R (Itl K a) H1
noncomputable def iTup(K:aB)(tl:TE):TI:=λσ H R=>tl σ H λx H1=>∃a,x=.ref a/\(∃xs,SqT K H1 a xs)/\R (Itt K a) H1
theorem aIT{l:Expr}{tl:TE}(hl:PE X l tl):PI X tg l (aOb X.K tl):=by
 intro pins s σ H R I h;refine thn (hl pins s σ H _ I h) λv s1 ⟨x,H1,I1,r1,q1⟩=> ?_
 obtain⟨a,e,⟨xs,hq⟩,q⟩:=q1;subst e;cases r1;obtain⟨its,rv,p,hz⟩:=I1.list hq;refine Ay p.isList ?_;refine⟨s1.heap.objs.size,[s1.heap.objs.size],_,_,H1,rfl,I1.kept (t':=s1.toks) λb o e=>aJ _ e,aEy a _,⟨_,bK _ rfl,rfl,rfl⟩,λb hb=> ?_,q⟩;have e:b=s1.heap.objs.size:=by simpa using hb
 subst e;exact I1.fpOk (aP _) (I1.hok.fresh<|aP _)
theorem aLF{l:Expr}{tl:TE}(hl:PE X l tl):PI X tg l (iTup X.K tl):=by
 intro pins s σ H R I h;refine thn (hl pins s σ H _ I h) λv s1 ⟨x,H1,I1,r1,q1⟩=> ?_
 obtain⟨a,e,⟨xs,hq⟩,q⟩:=q1;subst e;cases r1;obtain⟨its,rv,p,hz⟩:=I1.tuple hq;refine wpAny_pyIter_tuple (show s1.heap.IsTuple a its.toArray from p) ?_;refine⟨s1.heap.objs.size,[s1.heap.objs.size],_,_,H1,rfl,I1.kept (t':=s1.toks) λb o e=>aJ _ e,aBy a _,⟨_,bK _ rfl,rfl,rfl⟩,λb hb=> ?_,q⟩;have e:b=s1.heap.objs.size:=by simpa using hb
 subst e;exact I1.fpOk (aP _) (I1.hok.fresh<|aP _)
theorem aFC{R:It->Hp->Prop}{lo hi:Int}{t u v:Tok}{tk:Nat}(I:Inv X pins σ H s)(h1: -(2^62)<=lo)(h2:lo<2^62)(h3: -(2^62)<=hi)(h4:hi<2^62)
  (q:R (Itr lo (hi-lo).toNat) H):AK (AH X.prog X.w) X.A (pyIter<|.ref s.heap.objs.size) (PIE X pins σ tg R) E {s with heap:=s.heap.push {cls:=.type "range",data:=.fields #[.int lo t,.int hi u,.int 1 v]},toks:=tk}:=by
 refine wpAny_pyIter_range (IsRange.new ..) (small_one h1 h2 h3 h4) ?_;have I1:Inv X pins σ H {s with heap:=s.heap.push {cls:=.type "range",data:=.fields #[.int lo t,.int hi u,.int 1 v]},toks:=tk}:=I.kept λb o e=>aJ _ e
 refine ⟨(s.heap.push {cls:= .type "range",data:= .fields #[.int lo t, .int hi u, .int 1 v]}).objs.size,[(s.heap.push {cls:= .type "range",data:= .fields #[.int lo t, .int hi u, .int 1 v]}).objs.size],_,_,H,rfl,
  I1.kept (t':=tk) λb o e=>aJ _ e,aBD _ lo (hi-lo).toNat, ?_,λb hb=> ?_,q⟩
 ·have e1:lo+((0:Nat):Int)*1=lo:=by simp
  have e2:(((hi-lo).toNat:Nat):Int)-((0:Nat):Int)=Builtin.Range.rangeSize lo hi 1:=by rw[rangeSize_one];split<;>omega
  show IsRangeIter _ _ (lo+((0:Nat):Int)*1) ((((hi-lo).toNat:Nat):Int)-((0:Nat):Int)) 1;rw[e1,e2];exact bK _ rfl
 ·have e:b=(s.heap.push {cls:=.type "range",data:=.fields #[.int lo t,.int hi u,.int 1 v]}).objs.size:=by simpa using hb
  subst e;exact I1.fpOk (aP _) (I1.hok.fresh<|aP _)
noncomputable def aNP(ta:TA):TI:=λσ H R=>ta σ H λvs H1=>∃j:Int,vs=[.int j]/\ -(2^62)<=j/\j<2^62/\R (Itr 0 j.toNat) H1
theorem aEh{a:Expr}{ta:TA}{p:Pos}(hg:Gl X "range")(hm:X.mg "range"=none)(ha:PA X [a] ta)(hs:AC [a] X.env=[(false,eval a X.env)]:=by rfl):PI X tg (.Call (.Name "range" p) [a] [] pos) (aNP ta):=by
 intro pins s σ H R I h;refine Call_ (oO I hg hm boot_range<|PyProof.Rows.callWith_type1 (thn (ha pos pins s σ H _ I h) λus s1 ⟨vs,H1,I1,r1,q1⟩=> ?_) hs rfl);obtain⟨j,e,q1,q2,q⟩:=q1;subst e;cases r1 with
 |cons r rr=>cases rr;obtain⟨t,rfl⟩:=r;exact call_range_1 (aFC I1 (by omega) (by omega) q1 q2<|by simpa using q)
noncomputable def tFor(wi:TI)(g:TG)(tb:TS):TS:=λD σ H=>wi σ H λJ H1=>∃W:Nat->Nat->St->Hp->Prop,(∃m,W 0 m σ H1)/\∀i m σ H,W i m σ H->
 (J.stop i H/\D.nx σ H)\/(J.go i H/\∃N:St->Hp->Prop,(∀σ' H',N σ' H'->∃m',m'<m/\W (i+1) m' σ' H')/\∀x H',J.yld i H x H'->g x σ H' λσ2 H2=>tb {D with nx:=N,ct:=N,bk:=D.nx} σ2 H2)
noncomputable def mZ(fp:List BG)(h:BI):List (BG×BJ):=fp.filterMap λb=>(h.get? b).map λo=>(b,o)
theorem jC{fp:List BG}{b:BG}{o:BJ}(hb:b∈fp)(e:h.get? b=some o):(b,o)∈mZ fp h:=aGz.mpr ⟨b,hb,by rw[e];rfl⟩
theorem sI{fp:List BG}{p:BG×BJ}(hp:p∈mZ fp h):p.1∈fp/\h.get? p.1=some p.2:=by
 obtain⟨b,hb,e⟩:=aGz.mp hp;cases q:h.get? b with
 |none=>rw[q] at e;cases e
 |some o=>rw[q] at e;have e':(b,o)=p:=bS.inj e;subst e';exact⟨hb,q⟩
theorem Inv.pinned{fp:List BG}(I:Inv X pins σ H s)(hf:∀b∈fp,wN X pins H b)(ho:∀b∈fp,∃o,s.heap.get? b=some o/\∀v,o.data≠ .cell v):Inv X (pins++mZ fp s.heap) σ H s:=
 I.pins_of λp hp=>(aM.mp hp).elim (λz=>I.pin p<|aI _ z) λz=>by obtain⟨hb,e⟩:=sI z;obtain⟨f0,f1,f2,_⟩:=hf p.1 hb;obtain⟨o,e',d⟩:=ho p.1 hb;rw[e] at e';cases e';exact⟨e,f0,f1,f2,d⟩
theorem Inv.unpinned{pl:List (BG×BJ)}(I:Inv X (pins++pl) σ H s):Inv X pins σ H s:=I.pins_of λp hp=>I.pin p (aI _<|aZ _ hp)
theorem aGL{iter:Expr}{body:List BK}{wi:TI}{g:TG}{tb:TS}(hp:PassesOwn (AH X.prog X.w) X.A X.env X.xe)(hc:X.calm=true)(hi:PI X tg iter wi)(hg:PG X tg g)(hb:PSs X body tb)
  (hs:∀x,Ao iter X.env x=pure x:=by intro _;rfl):PS X (.For tg iter body [] pos) (tFor wi g tb):=by
 intro pins s σ H D I h;refine wpAny_For (thn (hi pins s σ H _ I h) λv s1 h1=>thn h1 λitv s2 h2=> ?_) hs;obtain⟨it,fp,tn,J,H2,e,I2,T,st2,f2,W,⟨m0,w0⟩,turn⟩:=h2;subst e
 have stat:∀ {H':Hp},(∀b∈fp,H' b=none)->∀b∈fp,wN X pins H' b:=λhn b hb=>⟨hn b hb,(f2 b hb).2⟩
 refine codeAny_forLoop_any (λn s'=>∃i σ' H',Inv X pins σ' H' s'/\tn i s'.heap/\(∀b∈fp,H' b=none)/\W i n σ' H') ?_ m0 ⟨0,σ,H2,I2,st2,λb hb=>(f2 b hb).1,w0⟩;rintro n s3 ⟨i,σ3,H3,I3,st3,fr3,w3⟩
 rcases turn i n σ3 H3 w3 with⟨stop,qn⟩|⟨go,N,hN,step⟩
 ·refine An hp<|thn (T.done X rfl rfl rfl hc i pins s3 σ3 H3 X.xe I3 (stat fr3) st3 stop) λr s4 ⟨hr,I4⟩=> ?_;subst hr;exact wpAny_execs_nil ⟨σ3,H3,I4,qn⟩
 ·refine An hp<|thn (T.item X rfl rfl rfl hc i pins s3 σ3 H3 X.xe I3 (stat fr3) st3 go) λr s4 ⟨u,hr,h4⟩=> ?_;subst hr;refine An hp<|thn h4 λ_ s5 ⟨x,H5,I5,r5,y5,st5,fr5⟩=> ?_;have I5':=I5.pinned (stat fr5)<|T.obj _ _ st5;refine An hp<|thn (hg _ s5 σ3 H5 x u _ I5' r5<|step x H5 y5) λ_ s6 ⟨σ6,H6,I6,q6⟩=> ?_;refine An hp (thn (hb _ s6 σ6 H6 _ I6 q6) λf s7 q7=> ?_)
  have again:∀ {σ7:St}{H7:Hp},Inv X (pins++mZ fp s5.heap) σ7 H7 s7->N σ7 H7->∃m,m<n/\∃i σ' H',Inv X pins σ' H' s7/\tn i s7.heap/\(∀b∈fp,H' b=none)/\W i m σ' H':=λ{σ7 H7} I7 n7=>by obtain⟨m',hm,w7⟩:=hN σ7 H7 n7;refine⟨m',hm,i+1,σ7,H7,I7.unpinned,T.keep _ _ _ st5 λb hb o e=>(I7.pin (b,o)<|aI _ (aI _<|jC hb e)).1,λb hb=> ?_,w7⟩;obtain⟨o,e,d⟩:=T.obj _ _ st5 b hb;exact(I7.pin (b,o)<|aI _ (aI _<|jC hb e)).2.1
  cases f with
  |next=>obtain⟨σ7,H7,I7,n7⟩:=q7;exact again I7 n7
  |cont=>obtain⟨σ7,H7,I7,n7⟩:=q7;exact again I7 n7
  |brk=>obtain⟨σ7,H7,I7,q7⟩:=q7;exact⟨σ7,H7,I7.unpinned,q7⟩
  |ret v=>obtain⟨x7,σ7,H7,I7,r7,q7⟩:=q7;exact⟨x7,σ7,H7,I7.unpinned,r7,q7⟩
noncomputable abbrev R2:=V->V->Hp->VK->Prop
def OpR(X:Cx)(f:BE->BE->Sem BE)(r:R2):Prop:=
 ∀ (pins:List (BG×BJ)) (s:BF) (σ:St) (H:Hp) (x y:V) (v u:BE) (Q:VK),Inv X pins σ H s->RelV x v->RelV y u->r x y H Q->
  AK (AH X.prog X.w) X.A (f v u) (EP X pins σ Q) X.xe s
def UnR(X:Cx)(f:BE->Sem BE)(r:V->Hp->VK->Prop):Prop:=
 ∀ (pins:List (BG×BJ)) (s:BF) (σ:St) (H:Hp) (x:V) (v:BE) (Q:VK),Inv X pins σ H s->RelV x v->r x H Q->
  AK (AH X.prog X.w) X.A (f v) (EP X pins σ Q) X.xe s
def kG(X:Cx)(f:BE)(r:List V->Hp->VK->Prop):Prop:=
 ∀ (pins:List (BG×BJ)) (s:BF) (σ:St) (H:Hp) (xs:List V) (us:List BE) (Q:VK),Inv X pins σ H s->Vals xs us->r xs H Q->
  AK (AH X.prog X.w) X.A (call f us) (EP X pins σ Q) X.xe s
noncomputable def tOp(r:R2)(ta tb:TE):TE:=λσ H Q=>ta σ H λx H1=>tb σ H1 λy H2=>r x y H2 Q
noncomputable def tUn(r:V->Hp->VK->Prop)(ta:TE):TE:=λσ H Q=>ta σ H λx H1=>r x H1 Q
noncomputable def rI(C:Int->Int->Prop)(g:Int->Int->V):R2:=λx y H Q=>∃i j,x=.int i/\y=.int j/\C i j/\Q (g i j) H
noncomputable def rI0(g:Int->Int->V):R2:=λx y H Q=>∃i j,x=.int i/\y=.int j/\Q (g i j) H
def rU(g:Int->V):V->Hp->VK->Prop:=λx H Q=>∃i,x=.int i/\Q (g i) H
variable {a c:Expr}{tc:TE}
theorem aNs(ha:PE X a ta)(hb:PE X b tb){R:V->V->Hp->Prop}(I:Inv X pins σ H s)
  (h:ta σ H λx H1=>tb σ H1 λy H2=>R x y H2) {Q:BE->BF->Prop}{f:BE->BE->Sem BE}
  (hf:∀v u s2 x y H2,Inv X pins σ H2 s2->RelV x v->RelV y u->R x y H2->AK (AH X.prog X.w) X.A (f v u) Q X.xe s2):
  AK (AH X.prog X.w) X.A (eval a X.env) (λv s₁=>AK (AH X.prog X.w) X.A (eval b X.env) (λu s₂=>AK (AH X.prog X.w) X.A (f v u) Q X.xe s₂) X.xe s₁) X.xe s:=by
 refine thn (ha pins s σ H _ I h) λv s1 ⟨x,H1,I1,r1,q1⟩=> ?_
 refine thn (hb pins s1 σ H1 _ I1 q1) λu s2 ⟨y,H2,I2,r2,q2⟩=> ?_
 exact hf v u s2 x y H2 I2 r1 r2 q2
theorem aNF{op:Operator}{r:R2}(ho:OpR X (Ai op) r)(ha:PE X a ta)(hb:PE X b tb):PE X (.BinOp a op b pos) (tOp r ta tb):=by intro pins s σ H Q I h;exact wpAny_BinOp<|aNs ha hb I h λv u s2 x y H2 I2 rx ry q=>ho pins s2 σ H2 x y v u Q I2 rx ry q
theorem aOc{op:UnaryOp}{r:V->Hp->VK->Prop}(ho:UnR X (unaryOp op) r)(ha:PE X a ta):PE X (.UnaryOp op a pos) (tUn r ta):=by intro pins s σ H Q I h;exact UnaryOp_<|thn (ha pins s σ H _ I h) λv s1 ⟨x,H1,I1,r1,q1⟩=>ho pins s1 σ H1 x v Q I1 r1 q1
theorem opI{f:BE->BE->Sem BE}{C:Int->Int->Prop}{g:Int->Int->Int}
  (rule:∀ (i j:Int) (t u:Tok) (s:BF) (Q:BE->BF->Prop) (E:BE->BF->Prop),C i j->Q (.int (g i j) s.toks) {s with toks:=s.toks+1}->AK (AH X.prog X.w) X.A (f (.int i t)<|.int j u) Q E s):
  OpR X f (rI C λi j=>.int<|g i j):=by
 intro pins s σ H x y v u Q I rx ry h;obtain⟨i,j,rfl,rfl,hc,q⟩:=h;obtain⟨t,rfl⟩:=rx;obtain⟨t',rfl⟩:=ry;exact rule i j t t' s _ _ hc ⟨.int<|g i j,H,I.tok _,⟨_,rfl⟩,q⟩
theorem aKC{f:BE->BE->Sem BE}{g:Int->Int->Int}
  (rule:∀ (i j:Int) (t u:Tok) (s:BF) (Q:BE->BF->Prop) (E:BE->BF->Prop),Q (.int (g i j) s.toks) {s with toks:=s.toks+1}->AK (AH X.prog X.w) X.A (f (.int i t)<|.int j u) Q E s):
  OpR X f (rI0 λi j=>.int<|g i j):=by
 intro pins s σ H x y v u Q I rx ry h;obtain⟨i,j,rfl,rfl,q⟩:=h;obtain⟨t,rfl⟩:=rx;obtain⟨t',rfl⟩:=ry;exact rule i j t t' s _ _ ⟨.int<|g i j,H,I.tok _,⟨_,rfl⟩,q⟩
theorem aNd{f:BE->BE->Sem BE}{g:Int->Int->Bool}
  (rule:∀ (i j:Int) (t u:Tok) (s:BF) (Q:BE->BF->Prop) (E:BE->BF->Prop),Q (.bool<|g i j) s->AK (AH X.prog X.w) X.A (f (.int i t)<|.int j u) Q E s):
  OpR X f (rI0 λi j=>.bl<|g i j):=by
 intro pins s σ H x y v u Q I rx ry h;obtain⟨i,j,rfl,rfl,q⟩:=h;obtain⟨t,rfl⟩:=rx;obtain⟨t',rfl⟩:=ry;exact rule i j t t' s _ _ ⟨.bl<|g i j,H,I,rfl,q⟩
def CDiv(i j:Int):Prop:=0<j/\j<1073741824
def CPow(i j:Int):Prop:=0<=j/\j<=1000000/\i.natAbs<2^64
def CMul(i j:Int):Prop:=(-(2^64)<i/\i<2^64)\/(-(2^64)<j/\j<2^64)
theorem CMul.ok{i j:Int}(h:CMul i j):IntMulOk i j:=by
 rcases h with⟨h1,h2⟩|⟨h1,h2⟩
 ·exact .of_left<|intBits_le_64 h1 h2
 ·exact .of_right<|intBits_le_64 h1 h2
theorem iI:OpR X (Ai .Add) (rI0 λi j=>.int<|i+j):=aKC λ_ _ _ _ _ _ _ q=>add_int q
theorem sP:OpR X (Ai .Sub) (rI0 λi j=>.int<|i-j):=aKC λ_ _ _ _ _ _ _ q=>sub_int q
theorem aLD:OpR X (Ai .Mult) (rI CMul λi j=>.int<|i*j):=opI λ_ _ _ _ _ _ _ hc q=>mul_int q hc.ok
theorem aJh:OpR X (Ai .FloorDiv) (rI CDiv λi j=>.int<|i / j):=opI λi j _ _ _ _ _ hc q=>by have h1:(0:Int)<j:=hc.1;have h2:j<1073741824:=hc.2;exact floordiv_int (by omega) (by rw[aAd i<|by omega];exact q)<|.inl (PyProof.noPylong_small<|by omega)
theorem gP:OpR X (Ai .Mod) (rI (λ_ j=>0<j) λi j=>.int<|i%j):=opI λi j _ _ _ _ _ hc q=>by have h1:(0:Int)<j:=hc;exact mod_int' (by omega) (by rw[Int.fmod_eq_emod_of_nonneg i<|by omega];exact q)
theorem aHm:OpR X (Ai .LShift) (rI CPow λi j=>.int<|i*2^j.toNat):=opI λ_ _ _ _ _ _ _ hc q=>lshift_int_small hc.1 hc.2.1 hc.2.2 q
theorem aGY:OpR X (Ai .BitAnd) (rI0 λi j=>.int<|Builtin.bitAnd i j):=aKC λ_ _ _ _ _ _ _ q=>and_int q
theorem aLk:OpR X (Ai .BitOr) (rI0 λi j=>.int<|Builtin.bitOr i j):=aKC λ_ _ _ _ _ _ _ q=>or_int q
theorem aHt:OpR X (Ai .BitXor) (rI0 λi j=>.int<|Builtin.bitXor i j):=aKC λ_ _ _ _ _ _ _ q=>xor_int q
theorem unI{f:BE->Sem BE}{g:Int->Int}
  (rule:∀ (i:Int) (t:Tok) (s:BF) (Q:BE->BF->Prop) (E:BE->BF->Prop),Q (.int (g i) s.toks) {s with toks:=s.toks+1}->AK (AH X.prog X.w) X.A (f<|.int i t) Q E s):
  UnR X f (rU λi=>.int<|g i):=by
 intro pins s σ H x v Q I rx h;obtain⟨i,rfl,q⟩:=h;obtain⟨t,rfl⟩:=rx;exact rule i t s _ _ ⟨.int<|g i,H,I.tok _,⟨_,rfl⟩,q⟩
theorem aMn:UnR X (unaryOp .USub) (rU λi=>.int (-i)):=unI λ_ _ _ _ _ q=>neg_int q
noncomputable def aNc:V->V->Bool
 |.non,.non=>true | .non,.int _=>true | .int _,.non=>true | .non,.bl _=>true | .bl _,.non=>true | .non,.str _=>true | .str _,.non=>true
 |.int _,.int _=>true | .bl _,.bl _=>true | .str _,.str _=>true | .byt _,.byt _=>true
 |.int _,.str _=>true | .str _,.int _=>true | .bl _,.str _=>true | .str _,.bl _=>true
 |_,_=>false
noncomputable def rEq:R2:=λx y H Q=>aNc x y=true/\Q (.bl (decide<|x=y)) H
noncomputable def rNe:R2:=λx y H Q=>aNc x y=true/\Q (.bl<|!decide (x=y)) H
theorem qK{i j:Int}:decide (V.int i=V.int j)=(i==j):=by rw[gM];simp
theorem aHE{i j:Bool}:decide (V.bl i=V.bl j)=(i==j):=by rw[gM];simp
theorem aDw{i j:Str}:decide (V.str i=V.str j)=(i==j):=by rw[gM];simp
theorem aDz{i j:Array UInt8}:decide (V.byt i=V.byt j)=(i.toList==j.toList):=by rw[gM];cases i;cases j;simp
theorem eK{Q:VK}{k k':Bool}(I:Inv X pins σ H s)(q:Q (.bl k) H)(e:k=k'):EP X pins σ Q (.bool k') s:=by subst e;exact⟨.bl k,H,I,rfl,q⟩
theorem aLe:OpR X (AS .Eq) rEq:=by
 intro pins s σ H x y v u Q I rx ry h;obtain⟨hs,q⟩:=h;cases x with
 |non=>
  cases rx;cases y with
  |non=>cases ry;exact PySem.EqNone.eq_none_none (eK I q<|by simp)
  |bl j=>cases ry;exact PySem.EqNone.eq_none_bool (eK I q<|by simp)
  |int j=>obtain⟨t',rfl⟩:=ry;exact PySem.EqNone.eq_none_int (eK I q<|by simp)
  |str j=>obtain⟨t',rfl⟩:=ry;exact PySem.EqNone.eq_none_str (eK I q<|by simp)
  |_=>exact absurd (show false=true from hs) bF
 |bl i=>
  cases rx;cases y with
  |non=>cases ry;exact PySem.EqNone.eq_bool_none (eK I q<|by simp)
  |bl j=>cases ry;exact eq_bool<|eK I q aHE
  |str j=>obtain⟨t',rfl⟩:=ry;exact PySem.EqMixed.eq_bool_str (eK I q<|by simp)
  |_=>exact absurd (show false=true from hs) bF
 |int i=>
  obtain⟨t,rfl⟩:=rx;cases y with
  |non=>cases ry;exact PySem.EqNone.eq_int_none (eK I q<|by simp)
  |int j=>obtain⟨t',rfl⟩:=ry;exact eq_int<|eK I q qK
  |str j=>obtain⟨t',rfl⟩:=ry;exact PySem.EqMixed.eq_int_str (eK I q<|by simp)
  |_=>exact absurd (show false=true from hs) bF
 |str i=>
  obtain⟨t,rfl⟩:=rx;cases y with
  |non=>cases ry;exact PySem.EqNone.eq_str_none (eK I q<|by simp)
  |bl j=>cases ry;exact PySem.EqMixed.eq_str_bool (eK I q<|by simp)
  |int j=>obtain⟨t',rfl⟩:=ry;exact PySem.EqMixed.eq_str_int (eK I q<|by simp)
  |str j=>obtain⟨t',rfl⟩:=ry;exact eq_str<|eK I q aDw
  |_=>exact absurd (show false=true from hs) bF
 |byt i=>
  obtain⟨t,rfl⟩:=rx;cases y with
  |byt j=>obtain⟨t',rfl⟩:=ry;exact PySem.W.eq_bytes<|eK I q aDz
  |_=>exact absurd (show false=true from hs) bF
 |_=>cases y<;>exact absurd (show false=true from hs) bF
theorem aOf:OpR X (AS .NotEq) rNe:=by
 intro pins s σ H x y v u Q I rx ry h;obtain⟨hs,q⟩:=h;cases x with
 |non=>
  cases rx;cases y with
  |non=>cases ry;exact PySem.EqNone.ne_none_none (eK I q<|by simp)
  |bl j=>cases ry;exact PySem.EqNone.ne_none_bool (eK I q<|by simp)
  |int j=>obtain⟨t',rfl⟩:=ry;exact PySem.EqNone.ne_none_int (eK I q<|by simp)
  |str j=>obtain⟨t',rfl⟩:=ry;exact PySem.EqNone.ne_none_str (eK I q<|by simp)
  |_=>exact absurd (show false=true from hs) bF
 |bl i=>
  cases rx;cases y with
  |non=>cases ry;exact PySem.EqNone.ne_bool_none (eK I q<|by simp)
  |bl j=>cases ry;exact ne_bool (eK I q<|congrArg not aHE)
  |str j=>obtain⟨t',rfl⟩:=ry;exact PySem.EqMixed.ne_bool_str (eK I q<|by simp)
  |_=>exact absurd (show false=true from hs) bF
 |int i=>
  obtain⟨t,rfl⟩:=rx;cases y with
  |non=>cases ry;exact PySem.EqNone.ne_int_none (eK I q<|by simp)
  |int j=>obtain⟨t',rfl⟩:=ry;exact ne_int (eK I q<|congrArg not qK)
  |str j=>obtain⟨t',rfl⟩:=ry;exact PySem.EqMixed.ne_int_str (eK I q<|by simp)
  |_=>exact absurd (show false=true from hs) bF
 |str i=>
  obtain⟨t,rfl⟩:=rx;cases y with
  |non=>cases ry;exact PySem.EqNone.ne_str_none (eK I q<|by simp)
  |bl j=>cases ry;exact PySem.EqMixed.ne_str_bool (eK I q<|by simp)
  |int j=>obtain⟨t',rfl⟩:=ry;exact PySem.EqMixed.ne_str_int (eK I q<|by simp)
  |str j=>obtain⟨t',rfl⟩:=ry;exact ne_str (eK I q<|congrArg not aDw)
  |_=>exact absurd (show false=true from hs) bF
 |byt i=>
  obtain⟨t,rfl⟩:=rx;cases y with
  |byt j=>obtain⟨t',rfl⟩:=ry;exact PySem.W.ne_bytes (eK I q<|congrArg not aDz)
  |_=>exact absurd (show false=true from hs) bF
 |_=>cases y<;>exact absurd (show false=true from hs) bF
theorem wR:OpR X (AS .Lt) (rI0 λi j=>.bl (decide<|i<j)):=aNd λ_ _ _ _ _ _ _ q=>lt_int q
theorem wC:OpR X (AS .LtE) (rI0 λi j=>.bl (decide<|i<=j)):=aNd λ_ _ _ _ _ _ _ q=>le_int q
theorem aLn:OpR X (AS .Gt) (rI0 λi j=>.bl (decide<|j<i)):=aNd λ_ _ _ _ _ _ _ q=>gt_int q
theorem aNZ:OpR X (AS .GtE) (rI0 λi j=>.bl (decide<|j<=i)):=aNd λ_ _ _ _ _ _ _ q=>ge_int q
theorem aHb:OpR X (AS .Is) (λx y H Q=>y=.non/\Q (.bl (decide<|x=.non)) H):=by
 intro pins s σ H x y v u Q I rx ry h;obtain⟨rfl,q⟩:=h;cases ry;refine is_none_gen<|eK I q ?_
 cases x<;>first
  |(cases rx;rfl)
  |(obtain⟨t,rfl⟩:=rx;rfl)
theorem aIR:OpR X (AS .IsNot) (λx y H Q=>y=.non/\Q (.bl<|!decide (x=.non)) H):=by
 intro pins s σ H x y v u Q I rx ry h;obtain⟨rfl,q⟩:=h;cases ry;refine isnot_none_gen<|eK I q ?_
 cases x<;>first
  |(cases rx;rfl)
  |(obtain⟨t,rfl⟩:=rx;rfl)
theorem OpR.or{f:BE->BE->Sem BE}{r r':R2}(h:OpR X f r)(h':OpR X f r'):OpR X f (λx y H Q=>r x y H Q\/r' x y H Q):=by
 intro pins s σ H x y v u Q I rx ry q
 rcases q with q|q
 ·exact h pins s σ H x y v u Q I rx ry q
 ·exact h' pins s σ H x y v u Q I rx ry q
theorem fR(b:Expr){op:CmpOp}(h:op≠ .In:=by decide)(h2:op≠ .NotIn:=by decide):AT op b=false:=by
 have e1:(op==CmpOp.In)=false:=by cases op<;>first|rfl|exact absurd rfl h
 have e2:(op==CmpOp.NotIn)=false:=by cases op<;>first|rfl|exact absurd rfl h2
 cases b<;>simp[AT,e1,e2]
theorem aDg{op:CmpOp}{r:R2}(ho:OpR X (AS op) r)(ha:PE X a ta)(hb:PE X b tb)(hm:AT op b=false):PE X (.Compare a [op] [b] pos) (tOp r ta tb):=by intro pins s σ H Q I h;exact wpAny_Compare1 (aNs ha hb I h λv u s2 x y H2 I2 rx ry q=>ho pins s2 σ H2 x y v u Q I2 rx ry q) hm
noncomputable def aOn(t:TE):TT:=λσ H Q=>t σ H λx H'=>∃k,x=.bl k/\Q k H'
theorem uG{op:CmpOp}{r:R2}(ho:OpR X (AS op) r)(ha:PE X a ta)(hb:PE X b tb)(hm:AT op b=false):PT X (.Compare a [op] [b] pos) (aOn<|tOp r ta tb):=by
 intro pins s σ H Q I h
 refine wpAny_isTrue_Compare1 (thn (ha pins s σ H _ I h) λv s1 ⟨x,H1,I1,r1,q1⟩=>thn (hb pins s1 σ H1 _ I1 q1) λu s2 ⟨y,H2,I2,r2,q2⟩=>thn (ho pins s2 σ H2 x y v u _ I2 r1 r2 q2) λc s3 ⟨z,H3,I3,r3,k,e,q3⟩=> ?_) hm
 subst e;cases r3;exact AZ ⟨H3,I3,q3⟩
noncomputable def aLT(r r':R2)(ta tb tc:TE):TE:=λσ H Q=>ta σ H λx H1=>tb σ H1 λy H2=>r x y H2 λz H3=>∃k,z=.bl k/\
 (if k=true then tc σ H3 λw' H4=>r' y w' H4 Q else Q (.bl false) H3)
theorem aGy{op op':CmpOp}{r r':R2}(ho:OpR X (AS op) r)(ho':OpR X (AS op') r')(ha:PE X a ta)(hb:PE X b tb)(hc:PE X c tc)
  (hm:lastMarks [op,op'] [b,c]=false:=by with_unfolding_all rfl):PE X (.Compare a [op,op'] [b,c] pos) (aLT r r' ta tb tc):=by
 intro pins s σ H Q I h
 refine Compare_chain (thn (ha pins s σ H _ I h) λv s1 ⟨x,H1,I1,r1,q1⟩=>chain_link<|thn (hb pins s1 σ H1 _ I1 q1) λu s2 ⟨y,H2,I2,r2,q2⟩=>thn (ho pins s2 σ H2 x y v u _ I2 r1 r2 q2) λd s3 ⟨z,H3,I3,r3,k,e,q3⟩=> ?_) hm
 subst e;cases r3;refine AZ ?_;cases k with
 |false=>exact ite_ff ⟨.bl false,H3,I3,rfl,q3⟩
 |true=>exact ite_tt (chain_last<|thn (hc pins s3 σ H3 _ I3 q3) λw' s4 ⟨z',H4,I4,r4,q4⟩=>ho' pins s4 σ H4 y z' u w' Q I4 r2 r4 q4)
theorem aCC:(AL:Nat)<2^63:=by rw[Ap];decide
theorem oE{x:V}{us:List BE}(r:Vals [x] us):∃u,us=[u]/\RelV x u:=by
 cases r with
 |cons r1 r2=>cases r2;exact⟨_,rfl,r1⟩
theorem aHX{x y:V}{us:List BE}(r:Vals [x,y] us):∃u w',us=[u,w']/\RelV x u/\RelV y w':=by
 cases r with
 |cons r1 r2=>
  cases r2 with
  |cons r3 r4=>cases r4;exact⟨_,_,rfl,r1,r3⟩
structure ObjM(h:BI)(x dx C:BG)(mA:Str->Option BE):Prop where
 obj:h.get? x=some (tZ C dx)
 ns:h.Ns1 dx mA
 ne:dx≠x
theorem aEs{dx:BG}{mA:Str->Option BE}(n:h.Ns1 dx mA):∃od,h.get? dx=some od/\∀name,xC name od=some (mA name):=by
 obtain⟨o,es,ep,ho,hd,hk,_,hm⟩:=n;refine⟨o,ho,λname=> ?_⟩;have e:=hm name;unfold nsFind findBy at e;rw[<-Array.find?_toList] at e;unfold xC;rw[hd];dsimp only
 split
 ·rename_i y q;rw[q] at e;exact congrArg some e
 ·rename_i q;rw[q] at e
  have a:es.toList.any (·.refKey)=false:=by rw[aHK];intro y hy;obtain⟨z,t,hkey⟩:=hk y<|Array.mem_toList_iff.mp hy;simp[DictEntry.refKey,hkey]
  have a':¬ es.toList.any (·.refKey)=true:=by rw[a];exact bF
  rw[if_neg a'];exact congrArg some e
theorem ObjM.look{dx C:BG}{mA:Str->Option BE}(I:ObjM h x dx C mA):∃od,PySem.W.InstAt h x (tZ C dx) C (some od)/\∀name,xC name od=some (mA name):=
 let ⟨od,ho,hl⟩:=aEs I.ns
 ⟨od,⟨I.obj,rfl,rfl,ho⟩,hl⟩
theorem RelO.some_of{v:V}{o:Option BE}(r:RelO (some v) o):∃u,o=some u/\RelV v u:=by
 cases o with
 |none=>exact(show False from r).elim
 |some u=>exact⟨u,rfl,r⟩
variable {a C dx:BG}{fs fs':List (Str×V)}
theorem aJx(hok:HOk P w H h)(e:H a=some (.ins C dx fs)):∃mA,ObjM h a dx C mA/\(∀f,RelO (fs.lookup f)<|mA f)/\PySem.Within mA (fs.map (·.1))/\fs.length<=1000/\H dx=some (.own a):=by obtain⟨d,z,ne,ob,mA,n,r,q⟩:=(show ObjOk P w H h a (.ins C dx fs) from hok a _ e);exact⟨mA,⟨ob,n,ne⟩,r,q,z,d⟩
structure Cls(K:aB)(C:BG):Prop where
 pg:aFh K C Str.empty=true
 hd:PySem.W.hasDictIn K C=true
 po:PySem.W.plainOver K C=true
 sa:gT K (.ref C) "__setattr__"=some (some<|.builtin "object.__setattr__")
theorem Cls.get{K:aB}(c:Cls K C)(f:Str):aFh K C f=true:=c.pg
structure Con(K:aB)(C:BG)(f:Str)(v:V)(u:BE):Prop where
 at_:gT K (.ref C) f=some (some u)
 rel:RelV v u
 get:aFa K u "__get__"=some none
 cp:PySem.W.copiedNames.contains f=false
structure Meth(K:aB)(C:BG)(m:Str)(f:BG):Prop where
 at_:gT K (.ref C) m=some (some<|.ref f)
 fn:aKA K (.ref f)=true
 kp:fG K (.ref f)=true
variable {A:BH}{Q:BE->BF->Prop}{c:BE}{b:Bool}
inductive qN(K:aB)(H:Hp):V->BE->Prop where
 |non:qN K H .non (.type "NoneType")
 |bl (x:Bool):qN K H (.bl x) (.type "bool")
 |int (i:Int):qN K H (.int i) (.type "int")
 |str (x:Str):qN K H (.str x) (.type "str")
 |flt (x:UInt64):qN K H (.flt x) (.type "float")
 |lst {a:BG}{xs:List V} (e:H a=some (.lst xs)):qN K H (.ref a) (.type "list")
 |frz {a:BG}{o:BJ}{xs:List V} (e:H a=some (.frz o<|.lst xs)):qN K H (.ref a) (.type "list")
 |tup {a:BG}{xs:List V} (e:H a=some (.tup xs)):qN K H (.ref a) (.type "tuple")
 |dK {a:BG}{kvs:List (Key×V)} (e:Rd H a (.dK kvs)):qN K H (.ref a) (.type "dict")
 |dT {a:BG}{kvs:List (List Key×V)} (e:H a=some (.dT kvs)):qN K H (.ref a) (.type "dict")
 |ins {a C dx:BG}{fs:List (Str×V)} (e:H a=some (.ins C dx fs)) (cl:Cls K C) (ha:gT K (.ref C) "__class__"=some (some<|.builtin "object.__class__"))
   (hn:aFa K (.builtin "object.__class__") "__get__"=some (some<|.builtin "getset_descriptor.__get__")) (htk:PySem.W.takesIn K (.builtin "object.__class__")=some true)
   (hm:aKk K C (.type "object")=some true):qN K H (.ref a) (.ref C)
theorem aED{x:V}{u t:BE}(I:Inv X pins σ H s)(rx:RelV x u)(ty:qN X.K H x t)(e:bR X.K t c=some b)(h:∀tk,Q (.bool b) {s with toks:=tk}):
  AK (AH X.prog X.w) A (call (.builtin "isinstance") [u,c]) Q E s:=by
 cases ty with
 |non=>cases(show u=Value.none from rx);exact eC PySem.W.kitx_none I.kIn True.intro e (λz=>nomatch z) h
 |bl y=>cases(show u=Value.bool y from rx);exact eC PySem.W.kitx_bool I.kIn True.intro e (λz=>nomatch z) h
 |int i=>obtain⟨t,q⟩:=(show ∃t,u=Value.int i t from rx);cases q;exact eC PySem.W.kitx_int I.kIn True.intro e (λz=>nomatch z) h
 |str y=>obtain⟨t,q⟩:=(show ∃t,u=Value.str y t from rx);cases q;exact eC PySem.W.kitx_str I.kIn True.intro e (λz=>nomatch z) h
 |flt y=>obtain⟨t,q⟩:=(show ∃t,u=Value.float y t from rx);cases q;exact eC PySem.W.kitx_float I.kIn True.intro e (λz=>nomatch z) h
 |@lst a xs ea=>cases(show u=Value.ref a from rx);obtain⟨_,_,n,_,h1⟩:=(show ObjOk X.prog X.w H s.heap a (.lst xs) from I.hok a _ ea);exact eC aFb I.kIn ⟨_,h1,rfl⟩ e (λz=>nomatch z) h
 |@frz a ob xs ea=>cases(show u=Value.ref a from rx);obtain⟨_,_,_,n,_,h1⟩:=(show ObjOk X.prog X.w H s.heap a (.frz ob<|.lst xs) from I.hok a _ ea);exact eC aFb I.kIn ⟨_,h1,rfl⟩ e (λz=>nomatch z) h
 |@tup a xs ea=>cases(show u=Value.ref a from rx);obtain⟨_,_,_,p⟩:=(show ObjOk X.prog X.w H s.heap a (.tup xs) from I.hok a _ ea);obtain⟨o,h1,h2,_⟩:=p;exact eC PySem.W.kitx_tuple I.kIn ⟨o,h1,h2⟩ e (λz=>nomatch z) h
 |@dK a kvs ea=>cases(show u=Value.ref a from rx);obtain⟨_,_,vs,_,p⟩:=(show ObjOk X.prog X.w H s.heap a (.dK kvs) from ea.ok I.hok);obtain⟨o,es,ep,h1,h2,_⟩:=p;exact eC aFc I.kIn ⟨o,h1,h2.1⟩ e (λz=>nomatch z) h
 |@dT a kvs ea=>cases(show u=Value.ref a from rx);obtain⟨_,_,xs,_,o,es,ep,h1,h2,_⟩:=(show ObjOk X.prog X.w H s.heap a (.dT kvs) from I.hok a _ ea);exact eC aFc I.kIn ⟨o,h1,h2.1⟩ e (λz=>nomatch z) h
 |@ins a C dx fs ea cl ha hn htk hm=>cases(show u=Value.ref a from rx);obtain⟨mA,O,_⟩:=aJx I.hok ea;obtain⟨od,J,_⟩:=O.look;exact eC (PySem.W.kitx_own (cl.get _) cl.hd ha hn htk hm) I.kIn J e (λz=>nomatch z) h
structure Room(k:Nat)(A:BH):Prop where
 hd:A.handled=none
 dp:A.depth+3*k+5<recursionLimit
 un:A.units+16*k+200<AO
 gd:A.guards=some []
theorem Room.mono{j k:Nat}(r:Room k A)(h:j<=k):Room j A:=⟨r.hd,by have:=r.dp;omega,by have:=r.un;omega,r.gd⟩
theorem Room.deeper{k:Nat}(r:Room (k+1) A)(env:Env):Room k (A.deeper env):=
 ⟨r.hd,by have:=r.dp;show A.depth+1+3*k+5<_;omega,by have:=r.un;show A.units+3+16*k+200<_;omega,r.gd⟩
theorem Room.depth{k:Nat}(r:Room k A):A.depth<recursionLimit:=by have:=r.dp;omega
noncomputable def vJ:TA:=λ_ H Q=>Q [] H
noncomputable def lO(ta:TE)(tr:TA):TA:=λσ H Q=>ta σ H λx H1=>tr σ H1 λxs H2=>Q (x::xs) H2
variable {es:List Expr}{t:TA}
theorem pa_nil:PA X [] vJ:=λ_ _ _ _ H Q I h=>Calls.spliced_nil ⟨[],H,I,.nil,h⟩
theorem dP(ha:PE X e te)(hr:PA X es t)(hs:AC (e::es) X.env=(false,eval e X.env)::AC es X.env:=by rfl):PA X (e::es) (lO te t):=by intro pos pins s σ H Q I h;rw[hs];show AK _ _ (spliced ((false,eval e X.env)::Af pos (AC es X.env))) _ _ s;refine Calls.spliced_cons<|thn (ha pins s σ H _ I h) λu s1 ⟨x,H1,I1,r1,q1⟩=> ?_;exact thn (hr pos pins s1 σ H1 _ I1 q1) λus s2 ⟨xs,H2,I2,r2,q2⟩=>⟨x::xs,H2,I2,.cons r1 r2,q2⟩
noncomputable def aOx(t:TA):TE:=λσ H Q=>t σ H λxs H1=>xs.length<=AL/\∀p,H1 p=none->Q (.ref p) (upd H1 p<|.tup xs)
noncomputable def tLst(t:TA):TE:=λσ H Q=>t σ H λxs H1=>xs.length<=AL/\∀p,H1 p=none->Q (.ref p) (upd H1 p<|.lst xs)
theorem aCO{x1}(h:PA X es t):PE X (.Tuple es x1 pos) (aOx t):=by intro pins s σ H Q I hq;refine wpAny_Tuple_spliced<|thn (h pos pins s σ H _ I hq) λus s1 ⟨xs,H1,I1,r,z,q⟩=>⟨by rw[<-r.length];exact z, ?_⟩;have hf:H1 s1.heap.objs.size=none:=I1.hok.fresh<|aP _;refine⟨.ref s1.heap.objs.size,upd H1 s1.heap.objs.size<|.tup xs,I1.laid (t':=s1.toks) (λb u e=>aJ _ e) (aP _) ?_,rfl,q _ hf⟩;exact⟨z,us,r,IsTupD.new _ _⟩
theorem aLG(h:PA X es t):PE X (.List es pos) (tLst t):=by intro pins s σ H Q I hq;refine wpAny_List_spliced<|thn (h pos pins s σ H _ I hq) λus s1 ⟨xs,H1,I1,r,z,q⟩=>⟨by rw[<-r.length];exact z, ?_⟩;have hf:H1 s1.heap.objs.size=none:=I1.hok.fresh<|aP _;refine⟨.ref s1.heap.objs.size,upd H1 s1.heap.objs.size<|.lst xs,I1.laid (t':=s1.toks) (λb u e=>aJ _ e) (aP _) ?_,rfl,q _ hf⟩;exact⟨z,us,0,r,bK _ rfl⟩
noncomputable abbrev Sp:=List V->Hp->VK->XK->Prop
noncomputable abbrev CXT:=List Env->Hp->BF->XK->BE->BF->Prop
structure aKo(P:AF)(w:AM)(K:aB)(mg:Str->Option BE)(base:BI)(A:BH)(outer:List Env)(s:BF)(H:Hp):Prop where
 frames:A.frames=some outer
 mod:Mod K mg base
 bs:∀b o,base.get? b=some o->s.heap.get? b=some o/\H b=none
 bsz:base.objs.size<=s.heap.objs.size
 funs:s.heap.FunFrames base outer
 frf:∀b∈frs outer,H b=none
 hok:HOk P w H s.heap
 bare:AllBare s.gens
def CE(outer:List Env)(P:AF)(w:AM)(H:Hp)(s:BF)(Q:VK)(u:BE)(s':BF):Prop:=
 ∃v H',s'.os=s.os/\AllBare s'.gens/\Un (frs outer) [] H H' s.heap s'.heap/\HOk P w H' s'.heap/\RelV v u/\Q v H'
def CR(CX:CXT)(outer:List Env)(P:AF)(w:AM)(H:Hp)(s:BF)(Q:VK)(E:XK)(r:Result)(s':BF):Prop:=
 match r with
 |.ok (.ret u)=>CE outer P w H s Q u s'
 |.ok _=>False
 |.error e=>CX outer H s E e s'
structure FnOk(P:AF)(w:AM)(K:aB)(mg:Str->Option BE)(base:BI)(CX:CXT)(k:Nat)(f:BG)(fd:Aa)(ps:List Str)(sp:Sp):Prop where
 len:∀vs H Q E,sp vs H Q E->vs.length=ps.length
 run:∀ (A:BH) (outer:List Env) (s:BF) (H:Hp) (args:Args) (us:List BE) (vs:List V) (Q:VK) (E:XK),Room k A->aKo P w K mg base A outer s H->BindsTo s fd args (ps.zip us)->Vals vs us->sp vs H Q E->
  codeAny (AH P w) A (.call (.ref f) args) (CR CX outer P w H s Q E) s
variable {s':BF}
theorem Inv.env0(I:Inv X pins σ H s):aKo X.prog X.w X.K X.mg X.base X.A X.stack s H:=
 ⟨I.ok.frames,I.ok.mod,I.bs,cG I.ok.bsz I.sz,I.stack,I.stkFree,I.hok,I.bare⟩
theorem Inv.after{Q:VK}{u:BE}(I:Inv X pins σ H s)(h:CE X.stack X.prog X.w H s Q u s'):EP X pins σ Q u s':=by obtain⟨v,H',os,bare,un,hok,r,q⟩:=h;obtain⟨hh,g,d,t,os'⟩:=s';obtain rfl:os'=s.os:=os;exact⟨v,H',I.call (h':=hh) (g':=g) (d':=d) (t':=t) (ch:=[]) un hok bare (λb z=>absurd z<|by simp),r,q⟩
noncomputable def aNT(sp:Sp)(dvs:List V)(E:XK)(t:TA):TE:=λσ H Q=>t σ H λvs H1=>sp (vs++dvs) H1 Q E
def Binds(K:aB)(fd:Aa)(ps:List Str)(ds:List BE):Prop:=
 ∀ (s:BF) (us:List BE),K.In s.heap->(us++ds).length=ps.length->BindsTo s fd ⟨us,[]⟩ (ps.zip<|us++ds)
theorem Binds.all{K:aB}{fd:Aa}{ps:List Str}(h:∀us:List BE,us.length=ps.length->bindArgs fd ⟨us,[]⟩=pure (ps.zip us)):Binds K fd ps []:=λs us _ hl=>by rw[cM] at hl ⊢;exact .of_eq<|h us hl
def aCq(CX:CXT)(X:Cx)(E:XK):Prop:=∀ (pins:List (BG×BJ)) (σ:St) (H:Hp) (s:BF) (e:BE) (s':BF),Inv X pins σ H s->CX X.stack H s E e s'->X.xe e s'
variable {CX:CXT}{k:Nat}{f:BG}{fd:Aa}{ps:List Str}{sp:Sp}{dvs:List V}{ds:List BE}{E:XK}{x m:Str}{p apos:Pos}{o:Expr}
theorem aMg{Q:VK}{us:List BE}{vs:List V}(F:FnOk X.prog X.w X.K X.mg X.base CX k f fd ps sp)(hr:Room k X.A)(hb:Binds X.K fd ps ds)(hd:Vals dvs ds)(hx:aCq CX X E)
  (I:Inv X pins σ H s) (r:Vals vs us) (h:sp (vs++dvs) H Q E):AK (AH X.prog X.w) X.A (call (.ref f) us) (EP X pins σ Q) X.xe s:=by
 have r2:Vals (vs++dvs) (us++ds):=r.append hd;have hl:(us++ds).length=ps.length:=by rw[<-r2.length];exact F.len _ _ _ _ h
 refine wpAny_call<|BA (F.run X.A X.stack s H ⟨us,[]⟩ (us++ds) (vs++dvs) Q E hr I.env0 (hb s us I.kIn hl) r2 h) λr s' hq=> ?_;cases r with
 |error e=>exact hx pins σ H s e s' I hq
 |ok fl=>
  cases fl with
  |ret u=>exact I.after hq
  |next=>exact False.elim hq
  |brk=>exact False.elim hq
  |cont=>exact False.elim hq
theorem aDk(F:FnOk X.prog X.w X.K X.mg X.base CX k f fd ps sp)(hr:Room k X.A)(hg:Gl X x)(hm:X.mg x=some (.ref f))(hk:fG X.K (.ref f)=true)(hb:Binds X.K fd ps ds)(hd:Vals dvs ds)(hx:aCq CX X E)
  (ha:PA X (e::es) t) (hdb:(x==("__debug__":Str))=false:=by decide) (he:AC (e::es) X.env=(false,eval e X.env)::AC es X.env:=by rfl) (hpl:(Af pos<|AC es X.env).any (·.1)=false:=by rfl):
  PE X (.Call (.Name x p) (e::es) [] pos) (aNT sp dvs E t):=by
 intro pins s σ H Q I h;refine Ad<|rE I hg hm ?_ hdb;refine qD (h₀:=X.base) I.ok.mod.kin hk (thn (ha pos pins s σ H _ I h) λus s1 ⟨vs,H1,I1,r,q⟩=>⟨I1.kIn, ?_⟩) he hpl;exact aMg F hr hb hd hx I1 r q
structure Mk(K:aB)(C f:BG):Prop where
 makes:PySem.W.makesIn K C=true
 init:gT K (.ref C) "__init__"=some (some<|.ref f)
 fn:aKA K (.ref f)=true
 kp:fG K (.ref C)=true
section
variable {X:Cx}{CX:CXT}{k:Nat}{f C:BG}{fd:Aa}{ps ks:List Str}{sp:Sp}{E:XK}{x m:Str}{p pos apos kpos:Pos}{e o:Expr}{es:List Expr}{kws:List Keyword}{te ta:TE}{t tk:TA}{nm:Option Str}
structure aOV(K:aB)(fd:Aa)(ps ks:List Str)(g:List BE->List BE->List BE)(gV:List V->List V->List V):Prop where
 to:∀ (s:BF) (us ws:List BE),K.In s.heap->(g us ws).length=ps.length->BindsTo s fd ⟨us,ks.zip ws⟩ (ps.zip<|g us ws)
 rel:∀ {vs:List V}{us:List BE}{zs:List V}{ws:List BE},Vals vs us->Vals zs ws->Vals (gV vs zs) (g us ws)
variable {g:List BE->List BE->List BE}{gV:List V->List V->List V}
end
structure kA(N P:List Str)(sc:Scope):Prop where
 kind:sc.kind=.function
 co:sc.isCoroutine=false
 gen:sc.isGenerator=false
 nd:N.Nodup
 pre:N.take P.length=P
 par:∀x∈P,sc.names.lookup x=some .local\/sc.names.lookup x=some .cell
 nofree:∀y∈sc.names,y.2≠ .free
theorem yF{kindOf:Str->Option NameKind}{x:Str}:∀ {binds:List (Str×BE)}{m:Str->Option BE},(∀v,(x,v)∉binds)->bindL kindOf binds m x=m x
 |[],_,_=>rfl
 |(n,v)::r,m,h=>by
  unfold bindL;rw[yF λw hw=>h w<|aF _ hw]
  split
  ·have:x≠n:=by rintro rfl;exact h v aG
   simp[this]
  ·rfl
theorem yC{kindOf:Str->Option NameKind}{x:Str}:∀ {binds:List (Str×BE)}{m:Str->Option BE},(∀v,(x,v)∉binds)->bindC kindOf binds m x=m x
 |[],_,_=>rfl
 |(n,v)::r,m,h=>by
  unfold bindC;rw[yC λw hw=>h w<|aF _ hw]
  split
  ·rfl
  ·have:x≠n:=by rintro rfl;exact h v aG
   simp[this]
theorem xZ{kindOf:Str->Option NameKind}{x:Str}{v:BE}:∀ {P:List Str}{vs:List BE}{i:Nat}{m:Str->Option BE},P.Nodup->P[i]? =some x->vs[i]? =some v->kindOf x=some .local->
  bindL kindOf (P.zip vs) m x=some v
 |[],_,_,_,_,h,_,_=>by simp at h
 |_::_,[],_,_,_,_,h,_=>by simp at h
 |p::P,w::vs,0,m,nd,h1,h2,hk=>by simp at h1 h2;subst h1;subst h2;show bindL kindOf ((p,w)::P.zip vs) m p=_;unfold bindL;rw[yF λv hv=>(bH.mp nd).1 (xG hv).1,if_pos hk];simp
 |p::P,w::vs,i+1,m,nd,h1,h2,hk=>by show bindL kindOf ((p,w)::P.zip vs) m x=_;unfold bindL;exact xZ (i:=i) (bH.mp nd).2 (by simpa using h1) (by simpa using h2) hk
theorem yE{kindOf:Str->Option NameKind}{x:Str}{v:BE}:∀ {P:List Str}{vs:List BE}{i:Nat}{m:Str->Option BE},P.Nodup->P[i]? =some x->vs[i]? =some v->kindOf x≠some .local->
  bindC kindOf (P.zip vs) m x=some v
 |[],_,_,_,_,h,_,_=>by simp at h
 |_::_,[],_,_,_,_,h,_=>by simp at h
 |p::P,w::vs,0,m,nd,h1,h2,hk=>by simp at h1 h2;subst h1;subst h2;show bindC kindOf ((p,w)::P.zip vs) m p=_;unfold bindC;rw[yC λv hv=>(bH.mp nd).1 (xG hv).1,if_neg hk];simp
 |p::P,w::vs,i+1,m,nd,h1,h2,hk=>by show bindC kindOf ((p,w)::P.zip vs) m x=_;unfold bindC;exact yE (i:=i) (bH.mp nd).2 (by simpa using h1) (by simpa using h2) hk
noncomputable def start(N:List Str)(vs:List V):St:=vs.map some++fJ (N.length-vs.length) none
noncomputable def jP(CX:CXT)(P:AF)(w:AM)(K:aB)(mg:Str->Option BE)(base:BI)(N:List Str)(qual:Str)(scope:Scope)(f:BG)(cd:BE)(A:BH)(outer:List Env)(s:BF)(H:Hp)(E:XK):Cx where
 prog:=P
 w:=w
 K:=K
 mg:=mg
 base:=base
 A:=A.deeper<|Ar qual scope s.heap.objs.size f cd
 N:=N
 s₀:=s
 H₀:=H
 env:=Ar qual scope s.heap.objs.size f cd
 outer:=outer
 stack:=Ar qual scope s.heap.objs.size f cd::outer
 ex:=[]
 calm:=true
 fn:=λ_=>true
 pn:=[]
 xe:=λe s'=>AK (AH P w) (A.deeper<|Ar qual scope s.heap.objs.size f cd) (leaving (Ar qual scope s.heap.objs.size f cd) e) (λ_ s''=>CX outer H s E e s'') (λe' s''=>CX outer H s E e' s'') s'
theorem aBo{sc:Scope}{n:Nat}(h:sc.names.lookup x=some .cell):∃c,(cellsFrom n sc.names []).lookup x=some c:=by have q:=aAe sc.names n []<|.inl h;exact lY.mp q
theorem aDZ{K:aB}{mg:Str->Option BE}{base:BI}{N:List Str}{qual:Str}{scope:Scope}{cd:BE}{outer:List Env}{s1:BF}{us:List BE}{vs:List V}
  (S:kA N ps scope) (hd:A.handled=none) (e0:aKo P w K mg base A outer s H) (hl:vs.length=ps.length) (r:Vals vs us)
  (x:InCallC s s.heap.objs.size (bindL (Ar qual scope s.heap.objs.size f cd).kindOf (ps.zip us) λ_=>none) (cellsFrom (s.heap.objs.size+1) scope.names []) (bindC (Ar qual scope s.heap.objs.size f cd).kindOf (ps.zip us) λ_=>none) s1):
  Inv (jP CX P w K mg base N qual scope f cd A outer s H E) [] (start N vs) H s1:=by
 have hpl:ps.length<=N.length:=by have:=congrArg pQ S.pre;rw[cH] at this;omega
 obtain⟨h1,tk,rfl,hk⟩:=x.done;have noA:∀b:BG,b∉(jP CX P w K mg base N qual scope f cd A outer s H E).ex:=λb z=>absurd (show b∈([]:List BG) from z)<|by simp
 refine ⟨⟨e0.mod,S.kind,rfl,rfl,aP _,fun y z c h1 h2=> ?_,fun y hy=> ?_,fun y c _ h=> ?_,fun _=>hd,Around.frames_deeper e0.frames, .inr ⟨rfl,rfl⟩,fun b z=>absurd z (noA b),e0.bs,e0.bsz,fun b _ _=>noA b,fun b z=>absurd z (noA b),e0.funs,e0.frf⟩,
  rfl,e0.bare,Un.kept hk,⟨_,x.toInCall.ns,λi y v h1 h2 h3=> ?_⟩,λy c h=>⟨_,x.cell y c h⟩,e0.hok.fresh (aP _),λy c h=> ?_,λp hp=>absurd (show p∈([]:List (BG×BJ)) from hp) (by simp),e0.hok.kept hk, ?_⟩
 ·exact name_of_addr x.apart (PySem.mem_of_lookup h1)<|PySem.mem_of_lookup h2
 ·have hy:scope.names.lookup y=some .cell\/scope.names.lookup y=some .free:=hy
  rcases hy with hy|hy
  ·exact aBo hy
  ·exact absurd rfl (S.nofree _<|PySem.mem_of_lookup hy)
 ·exact dN (x.above y c<|PySem.mem_of_lookup h)
 ·have hi:i<vs.length:=by
   unfold start at h2
   by_cases hi:i<vs.length
   ·exact hi
   ·rw[dH<|by simpa using hi] at h2;rw[List.getElem?_replicate] at h2
    split at h2<;>cases h2
  have ha:vs[i]? =some v:=by
   unfold start at h2;rw[cU (by simpa using hi),aS] at h2;cases e:vs[i]? with
   |none=>rw[e] at h2;cases h2
   |some a=>rw[e] at h2;cases h2;rfl
  obtain⟨u,hu,rv⟩:=r.get ha
  have hp:ps[i]? =some y:=by rw[<-S.pre,aAy<|by omega];exact h1
  have ndP:ps.Nodup:=by rw[<-S.pre];exact S.nd.sublist<|aHL _ _
  refine⟨u,rv, ?_⟩
  rcases S.par y (aK hp) with k|k
  ·exact .inl ⟨k,xZ ndP hp hu k⟩
  ·obtain⟨c,e⟩:=aBo (n:=s.heap.objs.size+1) k;refine .inr ⟨.inl k,c,e, ?_⟩;have q:=x.cell y c e;rw[yE ndP hp hu<|by show scope.names.lookup y≠_;rw[k];decide] at q;exact q
 ·exact e0.hok.fresh<|dN (x.above y c<|PySem.mem_of_lookup h)
 ·unfold start;show _=N.length;rw[aN,aA,List.length_replicate];omega
theorem aKT{K:aB}{mg:Str->Option BE}{base:BI}{name qual:Str}{params:Arguments}{body:List BK}{scope:Scope}{dV kV doc pm cdv ct oc:BE}{an od:Option BG}
  {osl:Array (Option BE)}{N ps:List Str}{sp:Sp} (lk:K.lookup f=some ⟨oc,od,.func<|dU name qual params body scope dV kV doc pm an cdv ct,osl⟩) (hcd:jN K cdv qual=true) (S:kA N ps scope)
  (len:∀vs H Q E,sp vs H Q E->vs.length=ps.length)
  (hbody:∀ (A:BH) (outer:List Env) (s:BF) (H:Hp) (vs:List V) (Q:VK) (E:XK),Room k (A.deeper (Ar qual scope s.heap.objs.size f cdv))→sp vs H Q E→
   ∃t,PSs (jP CX P w K mg base N qual scope f cdv A outer s H E) body t/\t {nx:=λ_ H'=>Q .non H',rt:=Q} (start N vs) H):
  FnOk P w K mg base CX (k+1) f (dU name qual params body scope dV kV doc pm an cdv ct) ps sp:=by
 refine⟨len,λA outer s H args us vs Q E hr e0 hb r hsp=> ?_⟩;have hl:=len _ _ _ _ hsp;have KX:K.In s.heap:=e0.mod.kin.keeps λb o e=>(e0.bs b o e).1
 have lim:s.heap.NoLimit:=e0.mod.nolimit.keeps λb o e=>(e0.bs b o e).1
 have hkind:∀y∈ps.zip us,scope.names.lookup y.1=some .local\/(scope.names.lookup y.1=some .cell/\((cellsFrom (s.heap.objs.size+1) scope.names []).lookup y.1).isSome=true):=λ⟨n,v⟩ hy=>by
  rcases S.par n (xG hy).1 with q|q
  ·exact .inl q
  ·exact .inr ⟨q,aAe _ _ _<|.inl q⟩
 refine codeAny_call_function hr.depth (KX _ _ lk) rfl S.co S.gen rfl (PySem.W.codeRec_of KX hcd)<|hb _ _ _ _ ?_;refine wpAny_newFunctionEnv_cells S.kind hkind λenv he s1 x=> ?_
 subst he;refine⟨lim.keeps x.toInCall.keep,codeAny_func ?_⟩;obtain⟨t,ht,hq⟩:=hbody A outer s H vs Q E (hr.deeper _) hsp;have I:Inv (jP CX P w K mg base N qual scope f cdv A outer s H E) [] (start N vs) H s1:=aDZ S hr.hd e0 hl r x;refine AY (ht [] s1 (start N vs) H _ I hq) (λfl s' hs=> ?_) λe s' hs=>hs
 have fin:∀ {σ':St}{H':Hp}{v:V}{u:BE},Inv (jP CX P w K mg base N qual scope f cdv A outer s H E) [] σ' H' s'->RelV v u->Q v H'->CE outer P w H s Q u s':=
  λ{σ' H' v u} J rv q=>⟨v,H',J.os,J.bare,J.base,J.hok,rv,q⟩
 cases fl with
 |ret u=>obtain⟨v,σ',H',J,rv,q⟩:=hs;exact fin J rv q
 |next=>obtain⟨σ',H',J,q⟩:=hs;exact fin (v:=V.non) (u:=Value.none) J rfl q
 |brk=>obtain⟨_,_,_,q⟩:=hs;exact False.elim q
 |cont=>obtain⟨_,_,_,q⟩:=hs;exact False.elim q
section
variable {X:Cx}{x:Str}{p pos:Pos}{e:Expr}{es:List Expr}{t:TA}{id T:String}{r:List V->Hp->VK->Prop}
noncomputable def tCB(r:List V->Hp->VK->Prop)(t:TA):TE:=λσ H Q=>t σ H λvs H1=>r vs H1 Q
theorem kC(hc:kG X (.builtin id) r)(hg:Gl X x)(hm:X.mg x=none)(hv:Ae x=some (.builtin id))(ha:PA X (e::es) t)(hn:x≠"__name__":=by decide)(hdb:(x==("__debug__":Str))=false:=by decide)
  (he:AC (e::es) X.env=(false,eval e X.env)::AC es X.env:=by rfl) (hpl:(Af pos<|AC es X.env).any (·.1)=false:=by rfl):PE X (.Call (.Name x p) (e::es) [] pos) (tCB r t):=by
 intro pins s σ H Q I h;refine Ad<|oO I hg hm hv ?_ hn hdb;exact PyProof.Rows.callWith_builtin1 (thn (ha pos pins s σ H _ I h) λus s1 ⟨vs,H1,I1,r1,q1⟩=>hc pins s1 σ H1 vs us Q I1 r1 q1) he hpl
theorem aEj(hc:kG X (.type T) r)(hg:Gl X x)(hm:X.mg x=none)(hv:Ae x=some (.type T))(ha:PA X (e::es) t)(hn:x≠"__name__":=by decide)(hdb:(x==("__debug__":Str))=false:=by decide)
  (he:AC (e::es) X.env=(false,eval e X.env)::AC es X.env:=by rfl) (hpl:(Af pos<|AC es X.env).any (·.1)=false:=by rfl):PE X (.Call (.Name x p) (e::es) [] pos) (tCB r t):=by
 intro pins s σ H Q I h;refine Ad<|oO I hg hm hv ?_ hn hdb;exact PyProof.Rows.callWith_type1 (thn (ha pos pins s σ H _ I h) λus s1 ⟨vs,H1,I1,r1,q1⟩=>hc pins s1 σ H1 vs us Q I1 r1 q1) he hpl
end
end L2
namespace HT
open PySem PyProof.Rows
noncomputable def lexLt:List Int->List Int->Bool
 |[],[]=>false
 |[],_::_=>true
 |_::_,[]=>false
 |x::xs,y::ys=>if x=y then lexLt xs ys else decide (x<y)
section
open PySem.SeqAt
open PySem.AutoSeq1 (wpAny_loadPart')
open PySem.MeetsSeq PySem.MeetsSeq2 PySem.MeetsSeq3
end
variable {prog:AF}{w:AM}{A:BH}{E:BE->BF->Prop}{s:BF}
theorem cat_tup{t b:BG}{vs ws:List BE}{Q:BE->BF->Prop}(ht:IsTup s.heap t vs.toArray)(hb:IsTup s.heap b ws.toArray)(hv:vs≠[])
  (h1:ws=[]->Q (.ref t) s) (h2:ws≠[]->Q (.ref s.heap.objs.size) {s with heap:=s.heap.push {cls:=.type "tuple",data:=.seq (vs++ws).toArray}})
  (hsz:vs.length+ws.length<=AL):AK (AH prog w) A (Ai .Add (.ref t)<|.ref b) Q E s:=by
 obtain⟨⟨cls,dd,data,sl⟩,ho,hc,n,hd⟩:=id ht;obtain⟨⟨cls2,dd2,data2,sl2⟩,ho2,hc2,n2,hd2⟩:=id hb;simp only at hc hd hc2 hd2;subst hc hd hc2 hd2;have e:vs.toArray++ws.toArray=(vs++ws).toArray:=by simp
 by_cases hw:ws=[]
 ·exact concat_meets ⟨_,ho,rfl⟩ ⟨_,ho2,rfl⟩ noFill_tuple_add seq_tuple_add nK mI (lU _ _)
   (tuple_addW1 t b vs.toArray ws.toArray n n2 dd dd2 sl sl2 (by simpa using hv)<|by simp[hw]) ⟨ho,ho2,h1 hw⟩
 ·refine concat_meets ⟨_,ho,rfl⟩ ⟨_,ho2,rfl⟩ noFill_tuple_add seq_tuple_add nK mI (lU _ _)
   (tuple_addW2 t b vs.toArray ws.toArray n n2 dd dd2 sl sl2 (by simpa using hv) (by simpa using hw)<|by rw[aY,aY];exact hsz) ⟨ho,ho2, ?_⟩
  rw[e];exact h2 hw
noncomputable def sIx(n d:Nat):Option Int->Nat
 |none=>d
 |some v=>if v<0 then(v+(n:Int)).toNat else min v.toNat n
theorem sIx_none(n d:Nat):sIx n d none=d:=rfl
theorem sIx_nat(n d k:Nat):sIx n d (some (k:Int))=min k n:=by show(if(k:Int)<0 then((k:Int)+(n:Int)).toNat else min (k:Int).toNat n)=min k n;rw[if_neg<|by omega,dX]
theorem aLy(n d:Nat)(hd:d<=n)(o:Option Int):sIx n d o<=n:=by
 cases o with
 |none=>exact hd
 |some v=>
  show(if v<0 then(v+(n:Int)).toNat else min v.toNat n)<=n
  by_cases hv:v<0
  ·rw[if_pos hv];omega
  ·rw[if_neg hv];exact Nat.min_le_right _ _
theorem aCR(v:Int)(n d:Nat):(if v<0 then max (v+(n:Int)) 0 else min v (n:Int))=((sIx n d (some v):Nat):Int):=by
 show(if v<0 then max (v+(n:Int)) 0 else min v (n:Int))=(((if v<0 then(v+(n:Int)).toNat else min v.toNat n):Nat):Int)
 by_cases hv:v<0
 ·simp only[if_pos hv];omega
 ·simp only[if_neg hv];omega
theorem aCe(lo hi:Option Int)(n:Nat):Builtin.Slice.sliceAdjust lo hi 1 (n:Int)=(((sIx n 0 lo:Nat):Int),((sIx n n hi:Nat):Int)):=by
 have h1:¬ ((1:Int)<0):=by omega
 unfold Builtin.Slice.sliceAdjust;simp only[h1,if_false];refine Prod.ext ?_ ?_
 ·cases lo with
  |none=>rfl
  |some v=>exact aCR v n 0
 ·cases hi with
  |none=>rfl
  |some v=>exact aCR v n n
theorem aBJ(i j:Nat):Builtin.Slice.slicePlaces (i:Int) (j:Int) 1=j-i:=by
 unfold Builtin.Slice.slicePlaces;have h1:(1:Int)>0:=by omega
 simp only[h1,if_true,Int.ediv_one]
 split<;>omega
theorem wZ{v:BE}{o:Option Int}{Q:Option Int->BF->Prop}(p:IsPart v o)(h:Q o s):AK (AH prog w) A (Builtin.Slice.slicePartIndex v) Q E s:=by
 cases p with
 |none=>exact slicePart_none h
 |int i t=>exact slicePart_int h
theorem sV{sl:BG}{vl vu:BE}{lo hi:Option Int}{n:Nat}{Q:Int×Int×Nat->BF->Prop}(hs:s.heap.IsSliceOf sl vl vu .none)(pl:IsPart vl lo)(pu:IsPart vu hi)
  (h:Q (((sIx n 0 lo:Nat):Int),1,sIx n n hi-sIx n 0 lo) s):AK (AH prog w) A (Builtin.Slice.sliceApplied (.ref sl)<|pure (n:Int)) Q E s:=by
 obtain⟨os,hos,hcs,hds⟩:=id hs;unfold Builtin.Slice.sliceApplied Builtin.Slice.sliceFields;refine AA<|AA (wpAny_field hos hds (x:=vl) rfl<|AA (wpAny_field hos hds (x:=vu) rfl<|AA (wpAny_field hos hds (x:=.none) rfl<|AB ?_)));refine AA<|slicePart_none ?_;show AK _ _ (if((1:Int)==0)=true then _ else _) _ _ s;rw[if_neg<|by decide];refine AA<|wZ pl (AA<|wZ pu (AA<|AB ?_));show AK _ _ (match Builtin.Slice.sliceAdjust lo hi 1 (n:Int) with|(lo,hi)=>pure (lo,(1:Int),Builtin.Slice.slicePlaces lo hi 1)) _ _ s;rw[aCe lo hi n];show AK _ _ (pure (((sIx n 0 lo:Nat):Int),(1:Int),Builtin.Slice.slicePlaces ((sIx n 0 lo:Nat):Int) ((sIx n n hi:Nat):Int) 1)) _ _ s;rw[aBJ];exact AB h
theorem aGd(xs:Array BE)(i k:Nat):((bM k).filterMap λ(m:Nat)=>xs[((i:Int)+(m:Int)*1).toNat]?).toArray=((xs.toList.drop i).take k).toArray:=by
 have e:(λ(m:Nat)=>xs[((i:Int)+(m:Int)*1).toNat]?)=λm=>xs[i+m]? :=by
  funext m;have:((i:Int)+(m:Int)*1).toNat=i+m:=by omega
  rw[this]
 rw[e];have:=pick_run xs i k;rw[List.filterMap_map] at this;have e2:((λx=>xs[x]?) ∘ λx=>i+x)=λm=>xs[i+m]? :=rfl
 rw[e2] at this;rw[this]
theorem getItem_tuple_cut{t sl:BG}{items:Array BE}{vl vu:BE}{lo hi:Option Int}{Q:BE->BF->Prop}(ht:IsTup s.heap t items)(hs:s.heap.IsSliceOf sl vl vu .none)(pl:IsPart vl lo)(pu:IsPart vu hi)
  (hw:¬ (sIx items.size 0 lo=0/\sIx items.size items.size hi=items.size))
  (h:Q (.ref s.heap.objs.size) {s with heap:=s.heap.push {cls:=.type "tuple",data:=.seq ((items.toList.drop<|sIx items.size 0 lo).take<|sIx items.size items.size hi-sIx items.size 0 lo).toArray}})
  (hsz:items.size<=AL):AK (AH prog w) A (getItem (.ref t)<|.ref sl) Q E s:=by
 have htake:sizeOk (.seq ((items.toList.drop<|sIx items.size 0 lo).take<|sIx items.size items.size hi-sIx items.size 0 lo).toArray):=by show((items.toList.drop<|sIx items.size 0 lo).take<|sIx items.size items.size hi-sIx items.size 0 lo).toArray.size<=AL;rw[aY,cH,kH,bZ];omega
 have hj:sIx items.size items.size hi<=items.size:=aLy _ _ (aP _) hi;obtain⟨os,hos,hcs,hds⟩:=id hs;have hTs:s.TypeIs (.ref sl) "slice":=⟨os,hos,hcs⟩;unfold getItem
 try with_reducible refine Ah ?_
 first|refine AA (AB ?_)|skip
 refine AA<|wpAny_sequenceKey ht.typeIs (by decide) ?_
 refine AA (As (name:=Str.ofString "__getitem__") ht.typeIs PyProof.Rows.slot_tuple_getitem
  (Al PyProof.Rows.slot_tuple_getitem ht.typeIs entry_tuple_getitem ?_ (args_tuple_getitem _ _)))
 show AK _ _ (Builtin.Tuple.tupleItemsOf (.ref t)>>=_) _ _ s;refine AA<|tupleItemsOf_ ht ?_;refine AA<|wpAny_typeOf hTs ?_;rw[if_pos<|by decide];refine AA<|sV hs pl pu ?_
 have hno:¬ ((((sIx items.size 0 lo:Nat):Int)==0&&(1:Int)==1&&(sIx items.size items.size hi-sIx items.size 0 lo)==items.size)=true):=by intro q;rw[bC,bC] at q;have q1:((sIx items.size 0 lo:Nat):Int)=0:=eq_of_beq q.1.1;have q2:sIx items.size items.size hi-sIx items.size 0 lo=items.size:=eq_of_beq q.2;exact hw ⟨by omega,by omega⟩
 show AK _ _ (if(((sIx items.size 0 lo:Nat):Int)==0&&(1:Int)==1&&(sIx items.size items.size hi-sIx items.size 0 lo)==items.size)=true then _ else _) _ _ s;rw[if_neg hno,aGd]
 first
  |exact AA (m:=Builtin.Tuple.tupleExact _) (AV (AB ⟨_,rfl,AB h⟩) htake)
  |exact AA (m:=Builtin.Tuple.tupleExact _) (AV (AA (AB<|AB ⟨_,rfl,AB h⟩)) htake)
  |exact AA (AA (m:=Builtin.Tuple.tupleExact _)<|AV (AB<|AB ⟨_,rfl,AB h⟩) htake)
  |exact AA (AA (m:=Builtin.Tuple.tupleExact _)<|AV (AB ⟨_,rfl,AB h⟩) htake)
end HT
namespace L2
open PySem PySem.Spec PyProof.Rows
noncomputable abbrev TO:=St->Hp->(Option Int->Hp->Prop)->Prop
def PO(X:Cx)(e:Option Expr)(t:TO):Prop:=
 ∀ (pins:List (BG×BJ)) (s:BF) (σ:St) (H:Hp) (Q:Option Int->Hp->Prop),Inv X pins σ H s->t σ H Q->
  AK (AH X.prog X.w) X.A (evalPart e X.env) (λu s'=>∃o H',Inv X pins σ H' s'/\IsPart u o/\Q o H') X.xe s
noncomputable def aJz:TO:=λ_ H Q=>Q none H
noncomputable def aOa(t:TE):TO:=λσ H Q=>t σ H λx H1=>∃i,x=.int i/\Q (some i) H1
variable {X:Cx}{e:Expr}{te:TE}{lo hi:Option Expr}{tl th:TO}{pos p2:Pos}
theorem aII:PO X none aJz:=by intro pins s σ H Q I h;rw[evalPart_none];exact AB ⟨none,H,I,.none,h⟩
theorem aJS(h:PE X e te):PO X (some e) (aOa te):=by
 intro pins s σ H Q I hw;rw[evalPart_some];refine thn (h pins s σ H _ I hw) λu s1 ⟨x,H1,I1,r1,q1⟩=> ?_
 obtain⟨i,rfl,q⟩:=q1;obtain⟨t,rfl⟩:=r1;exact⟨some i,H1,I1,.int i t,q⟩
def SlR(X:Cx)(r:V->Option Int->Option Int->Hp->VK->Prop):Prop:=
 ∀ (pins:List (BG×BJ)) (s:BF) (σ:St) (H:Hp) (x:V) (v vl vu:BE) (lo hi:Option Int) (sl:BG) (Q:VK),Inv X pins σ H s->RelV x v->s.heap.IsSliceOf sl vl vu .none->IsPart vl lo->IsPart vu hi->r x lo hi H Q->
  ∃T id,typeLookup (.type T) "__getitem__"=pure (some<|.builtin id)/\s.TypeIs v T/\AK (AH X.prog X.w) X.A (getItem v<|.ref sl) (EP X pins σ Q) X.xe s
noncomputable def tSl(r:V->Option Int->Option Int->Hp->VK->Prop)(te:TE)(tl th:TO):TE:=λσ H Q=>te σ H λx H1=>tl σ H1 λl H2=>th σ H2 λu H3=>r x l u H3 Q
theorem aGa{r:V->Option Int->Option Int->Hp->VK->Prop}(hr:SlR X r)(he:PE X e te)(hl:PO X lo tl)(hu:PO X hi th):PE X (.Subscript e (.Slice lo hi none p2) pos) (tSl r te tl th):=by
 intro pins s σ H Q I h;refine Subscript_<|thn (he pins s σ H _ I h) λv s1 ⟨x,H1,I1,r1,q1⟩=> ?_;refine wpAny_Slice<|thn (hl pins s1 σ H1 _ I1 q1) λvl s2 ⟨l,H2,I2,pl,q2⟩=>thn (hu pins s2 σ H2 _ I2 q2) λvu s3 ⟨u,H3,I3,pu,q3⟩=> ?_;rw[evalPart_none];refine AB ?_;have I4:Inv X pins σ H3 {s3 with heap:=s3.heap.push {cls:=.type "slice",data:=.fields #[vl,vu,.none]}}:=I3.kept (t':=s3.toks) λb ob q=>aJ _ q
 obtain⟨T,id,hT,ht,hg⟩:=hr pins {s3 with heap:=s3.heap.push {cls:=.type "slice",data:=.fields #[vl,vu,.none]}} σ H3 x v vl vu l u s3.heap.objs.size Q I4 r1 (Heap.IsSliceOf.new ..) pl pu q3;show AK (AH X.prog X.w) X.A (subscriptTail e (.Slice lo hi none p2) v<|.ref s3.heap.objs.size) (EP X pins σ Q) X.xe {s3 with heap:=s3.heap.push {cls:=.type "slice",data:=.fields #[vl,vu,.none]}};exact tail_any (ops:=[.ref s3.heap.objs.size,v]) ht hT hg (by with_unfolding_all rfl)
noncomputable def aHU(xs:List V)(lo hi:Option Int):List V:=(xs.drop<|HT.sIx xs.length 0 lo).take<|HT.sIx xs.length xs.length hi-HT.sIx xs.length 0 lo
theorem aAo(xs:List V)(lo hi:Option Int):(aHU xs lo hi).length<=xs.length:=by unfold aHU;rw[cH,kH];omega
def rSlT(K:aB):V->Option Int->Option Int->Hp->VK->Prop:=λx lo hi H Q=>∃a xs,x=.ref a/\SqT K H a xs/\
 ¬ (HT.sIx xs.length 0 lo=0/\HT.sIx xs.length xs.length hi=xs.length)/\∀p,H p=none->Q (.ref p) (upd H p (.tup<|aHU xs lo hi))
theorem aLA:SlR X (rSlT X.K):=by
 intro pins s σ H x v vl vu lo hi sl Q I rx hs pl pu h;obtain⟨a,xs,rfl,hx,hw,q⟩:=h;cases rx;obtain⟨its,r,ht,hz⟩:=I.tuple hx;have hlen:its.toArray.size=xs.length:=by rw[aY];exact r.length.symm
 refine⟨"tuple",_,PyProof.Rows.slot_tuple_getitem.lookup,ht.typeIs, ?_⟩;refine HT.getItem_tuple_cut ht hs pl pu (by rw[hlen];exact hw) ?_ (by rw[hlen];exact hz);rw[hlen];refine⟨.ref s.heap.objs.size,_,I.laid (t':=s.toks) (o:=.tup<|aHU xs lo hi) (λb ob q=>aJ _ q) (aP _) ?_,rfl,q _ (I.hok.fresh<|aP _)⟩;exact⟨cG (aAo xs lo hi) hz,_,(r.drop<|HT.sIx xs.length 0 lo).take<|HT.sIx xs.length xs.length hi-HT.sIx xs.length 0 lo,IsTupD.new _ _⟩
noncomputable def aNJ(K:aB):R2:=λx y H Q=>∃a b xs ys,x=.ref a/\y=.ref b/\SqT K H a xs/\SqT K H b ys/\xs≠[]/\xs.length+ys.length<=AL/\
 (ys=[]->Q (.ref a) H)/\(ys≠[]->∀p,H p=none->Q (.ref p) (upd H p (.tup<|xs++ys)))
theorem Vals.nil_iff{xs:List V}{us:List BE}(r:Vals xs us):us=[]↔xs=[]:=by
 cases r with
 |nil=>simp
 |cons _ _=>simp
theorem aJC:OpR X (Ai .Add) (aNJ X.K):=by intro pins s σ H x y v u Q I rx ry h;obtain⟨a,b,xs,ys,rfl,rfl,ha,hb,hx,hz,q1,q2⟩:=h;cases rx;cases ry;obtain⟨its,r1,p1,_⟩:=I.tuple ha;obtain⟨its2,r2,p2,_⟩:=I.tuple hb;refine HT.cat_tup p1 p2 (λz=>hx<|r1.nil_iff.mp z) (λz=>⟨.ref a,H,I,rfl,q1<|r2.nil_iff.mp z⟩) (λz=> ?_) (by rw[<-r1.length,<-r2.length];exact hz);refine⟨.ref s.heap.objs.size,_,I.laid (t':=s.toks) (o:=.tup<|xs++ys) (λb ob q=>aJ _ q) (aP _) ?_,rfl,q2 (λw=>z<|r2.nil_iff.mpr w) _ (I.hok.fresh<|aP _)⟩;exact⟨by rw[aN];exact hz,_,r1.append r2,IsTupD.new _ _⟩
noncomputable def ixN(n:Nat)(i:Int):Option Nat:=if 0<=i then(if i<n then some i.toNat else none) else if -(n:Int)<=i then some (i+n).toNat else none
noncomputable def atI{α:Type}(xs:List α)(i:Int):Option α:=(ixN xs.length i).bind λj=>xs[j]?
theorem aIU{n:Nat}{i:Int}{j:Nat}(h:ixN n i=some j):seqIndex? i n=some j/\j<n/\ -(n:Int)<=i/\i<n:=by
 unfold ixN at h
 by_cases h0:0<=i
 ·rw[if_pos h0] at h
  by_cases h1:i<n
  ·rw[if_pos h1] at h;have e:i.toNat=j:=bS.inj h;exact⟨by rw[seqIndex_of h0 h1,e],by omega,by omega,h1⟩
  ·rw[if_neg h1] at h;cases h
 ·rw[if_neg h0] at h
  by_cases h1: -(n:Int)<=i
  ·rw[if_pos h1] at h;have e:(i+n).toNat=j:=bS.inj h;exact⟨by rw[seqIndex_neg (by omega) h1,e],by omega,h1,by omega⟩
  ·rw[if_neg h1] at h;cases h
theorem aDv{α:Type}{xs:List α}{i:Int}{v:α}(h:atI xs i=some v):∃j,seqIndex? i xs.length=some j/\xs[j]? =some v/\j<xs.length/\ -(xs.length:Int)<=i/\i<xs.length:=by
 unfold atI at h;cases e:ixN xs.length i with
 |none=>rw[e] at h;cases h
 |some j=>rw[e] at h;obtain⟨h1,h2,h3,h4⟩:=aIU e;exact⟨j,h1,h,h2,h3,h4⟩
theorem zR{α:Type}{xs:List α}{j:Nat}{v:α}(h:xs[j]? =some v):atI xs (j:Int)=some v:=by
 have hj:j<xs.length:=(aD.mp h).1
 have e:ixN xs.length (j:Int)=some j:=by unfold ixN;rw[if_pos<|by omega,if_pos<|by omega];simp
 unfold atI;rw[e];exact h
def mQ(b:Expr):Prop:=∀o i,subscripted b false o i=operate [o,i] (getItem o i)
def IxR(X:Cx)(r:R2):Prop:=
 ∀ (value slice:Expr) (pins:List (BG×BJ)) (s:BF) (σ:St) (H:Hp) (x y:V) (v u:BE) (Q:VK),Inv X pins σ H s->RelV x v->RelV y u->r x y H Q->
  subscripted slice false v u=operate [v,u] (getItem v u)->AK (AH X.prog X.w) X.A (subscriptTail value slice v u) (EP X pins σ Q) X.xe s
def MtR(X:Cx)(id:String)(r:V->List V->Hp->VK->Prop):Prop:=
 ∀ (pins:List (BG×BJ)) (s:BF) (σ:St) (H:Hp) (x:V) (xs:List V) (v:BE) (us:List BE) (Q:VK),Inv X pins σ H s->RelV x v->Vals xs us->r x xs H Q->
  AK (AH X.prog X.w) X.A (call (.builtin id) (v::us)) (EP X pins σ Q) X.xe s
section
variable {X:Cx}{a b:Expr}{ta tb:TE}{pos:Pos}
theorem aFn{r:R2}(hr:IxR X r)(ha:PE X a ta)(hb:PE X b tb)(hs:mQ b):PE X (.Subscript a b pos) (tOp r ta tb):=by intro pins s σ H Q I h;exact Subscript_ (aNs ha hb I h λv u s2 x y H2 I2 rx ry q=>hr a b pins s2 σ H2 x y v u Q I2 rx ry q<|hs _ _)
noncomputable def rIxL(K:aB):R2:=λx y H Q=>∃p xs i v,x=.ref p/\y=.int i/\SqL K H p xs/\atI xs i=some v/\Q v H
noncomputable def rIxT(K:aB):R2:=λx y H Q=>∃p xs i v,x=.ref p/\y=.int i/\SqT K H p xs/\atI xs i=some v/\Q v H
theorem aAg:IxR X (rIxL X.K):=by
 intro value slice pins s σ H x y v u Q I rx ry h hs;obtain⟨p,xs,i,z,rfl,rfl,hq,he,q⟩:=h;cases rx;obtain⟨t,rfl⟩:=ry;obtain⟨its,r,pl,hz⟩:=I.list hq;obtain⟨j,h1,h2,h3,h4,h5⟩:=aDv he;obtain⟨w,ew,rw'⟩:=r.get h2;have hl:=r.length;have hn:=aCC;have fin:EP X pins σ Q w s:=⟨z,H,I,rw',q⟩
 by_cases h0:0<=i
 ·have hj:i.toNat=j:=by rw[seqIndex_of h0 h5] at h1;exact bS.inj h1
  exact item_listR pl.isList h0 (by omega) (by rw[hj];simpa using ew) fin hs
 ·have hj:(i+(its.toArray.size:Int)).toNat=j:=by rw[seqIndex_neg (by omega) h4] at h1;rw[aY,<-hl];exact bS.inj h1
  exact subscriptTail_builtinR (x:=w) pl.isList.typeIs slot_list_getitem.lookup
   (wpAny_getItem_list_neg (Q:=λr s'=>r=w/\EP X pins σ Q r s') pl.isList (by omega) (by rw[aY]<;>omega) (by omega) (by rw[hj];simpa using ew) ⟨rfl,fin⟩) hs
theorem aLM:IxR X (rIxT X.K):=by
 intro value slice pins s σ H x y v u Q I rx ry h hs;obtain⟨p,xs,i,z,rfl,rfl,hq,he,q⟩:=h;cases rx;obtain⟨t,rfl⟩:=ry;obtain⟨its,r,pl,hz⟩:=I.tuple hq;obtain⟨j,h1,h2,h3,h4,h5⟩:=aDv he;obtain⟨w,ew,rw'⟩:=r.get h2;have hl:=r.length;have hn:=aCC;have fin:EP X pins σ Q w s:=⟨z,H,I,rw',q⟩
 exact subscriptTail_builtinR (x:=w) pl.typeIs slot_tuple_getitem.lookup
  (getItem_tuple (j:=j) (Q:=λr s'=>r=w/\EP X pins σ Q r s') pl (by omega) (by omega) (by rw[aY,<-hl];exact h1) (by simpa using ew) ⟨rfl,fin⟩) hs
noncomputable def nM:V->Bool
 |.non=>true
 |.bl _=>true
 |.int _=>true
 |.str _=>true
 |_=>false
noncomputable def eqV:V->V->Bool
 |.non,.non=>true
 |.bl a,.bl b=>a==b
 |.bl a,.int b=>(if a then 1 else 0)==b
 |.int a,.bl b=>a==(if b then 1 else 0)
 |.int a,.int b=>a==b
 |.str a,.str b=>a==b
 |_,_=>false
theorem vP{A:BH}{s:BF}{y x:V}{u v:BE}(ry:RelV y u)(rx:RelV x v)(fy:nM y=true)(fx:nM x=true):SeqAt.EqAt A s u v (eqV y x):=by
 cases y with
 |non=>
  cases ry;cases x with
  |non=>cases rx;exact SeqAt.EqAt.same _
  |bl b=>cases rx;exact SeqAt.EqAt.none_bool b
  |int b=>obtain⟨t,rfl⟩:=rx;exact SeqAt.EqAt.none_int b t
  |str b=>obtain⟨t,rfl⟩:=rx;exact SeqAt.EqAt.none_str b t
  |_=>exact absurd (show false=true from fx) bF
 |bl a=>
  cases ry;cases x with
  |non=>cases rx;exact SeqAt.EqAt.bool_none a
  |bl b=>cases rx;exact SeqAt.EqAt.bool_bool a b
  |int b=>obtain⟨t,rfl⟩:=rx;exact SeqAt.EqAt.bool_int a b t
  |str b=>obtain⟨t,rfl⟩:=rx;exact SeqAt.EqAt.bool_str a b t
  |_=>exact absurd (show false=true from fx) bF
 |int a=>
  obtain⟨t',rfl⟩:=ry;cases x with
  |non=>cases rx;exact SeqAt.EqAt.int_none a t'
  |bl b=>cases rx;exact SeqAt.EqAt.int_bool a t' b
  |int b=>obtain⟨t,rfl⟩:=rx;exact SeqAt.EqAt.int_int a t' b t
  |str b=>obtain⟨t,rfl⟩:=rx;exact SeqAt.EqAt.int_str a t' b t
  |_=>exact absurd (show false=true from fx) bF
 |str a=>
  obtain⟨t',rfl⟩:=ry;cases x with
  |non=>cases rx;exact SeqAt.EqAt.str_none a t'
  |bl b=>cases rx;exact SeqAt.EqAt.str_bool a t' b
  |int b=>obtain⟨t,rfl⟩:=rx;exact SeqAt.EqAt.str_int a t' b t
  |str b=>obtain⟨t,rfl⟩:=rx;exact SeqAt.EqAt.str_str a t' b t
  |_=>exact absurd (show false=true from fx) bF
 |_=>exact absurd (show false=true from fy) bF
noncomputable def eqU(x:V)(u:BE):Bool:=match u with
 |.none=>eqV .non x
 |.bool b=>eqV (.bl b) x
 |.int i _=>eqV (.int i) x
 |.str z _=>eqV (.str z) x
 |_=>false
theorem aGX{x y:V}{u:BE}(r:RelV y u)(f:nM y=true):eqU x u=eqV y x:=by
 cases y with
 |non=>cases r;rfl
 |bl b=>cases r;rfl
 |int i=>obtain⟨t,rfl⟩:=r;rfl
 |str z=>obtain⟨t,rfl⟩:=r;rfl
 |_=>exact absurd (show false=true from f) bF
theorem zY{x:V}:∀ {xs:List V}{us:List BE},Vals xs us->xs.all nM=true->us.any (eqU x)=xs.any λy=>eqV y x
 |_,_,.nil,_=>rfl
 |y::xs,u::us,.cons r t,f=>by rw[aNi,bC] at f;rw[kN,kN,aGX r f.1,zY t f.2]
theorem vV{A:BH}{s:BF}{x:V}{v:BE}(rx:RelV x v)(fx:nM x=true):∀ {xs:List V}{us:List BE},Vals xs us->xs.all nM=true->∀u∈us,SeqAt.EqAt A s u v (eqU x u)
 |_,_,.nil,_=>λu hu=>by cases hu
 |y::xs,u::us,.cons r t,f=>λu' hu=>by
  rw[aNi,bC] at f
  rcases aU.mp hu with rfl|hu
  ·rw[aGX r f.1];exact vP r rx f.1 fx
  ·exact vV rx fx t f.2 u' hu
noncomputable def inV(x:V)(xs:List V):Bool:=xs.any λy=>eqV y x
noncomputable def rIn(K:aB)(neg:Bool):R2:=λx y H Q=>∃p xs,y=.ref p/\(SqL K H p xs\/SqT K H p xs)/\nM x=true/\xs.all nM=true/\Q (.bl (if neg then !inV x xs else inV x xs)) H
theorem aEc:OpR X (AS .In) (rIn X.K false):=by
 intro pins s σ H x y v u Q I rx ry h;obtain⟨p,xs,rfl,hq,fx,fs,q⟩:=h;cases ry
 rcases hq with hq|hq
 ·obtain⟨its,r,pl,hz⟩:=I.list hq;refine SeqAt.in_listAt (eqU x) pl.isList (λw hw=>vV rx fx r fs w<|by simpa using hw) ⟨.bl _,H,I,rfl, ?_⟩;rw[show its.toArray.any (eqU x)=its.any (eqU x) by simp,zY r fs];exact q
 ·obtain⟨its,r,pl,hz⟩:=I.tuple hq;refine SeqAt.in_tupleAt (eqU x) pl (λw hw=>vV rx fx r fs w<|by simpa using hw) ⟨.bl _,H,I,rfl, ?_⟩;rw[show its.toArray.any (eqU x)=its.any (eqU x) by simp,zY r fs];exact q
theorem qH:kG X (.builtin "len") (λxs H Q=>∃p ys,xs=[.ref p]/\(SqL X.K H p ys\/SqT X.K H p ys)/\Q (.int ys.length) H):=by
 intro pins s σ H xs us Q I r h;obtain⟨p,ys,rfl,hq,q⟩:=h;obtain⟨u,rfl,rx⟩:=oE r;cases rx;have hn:=aCC
 rcases hq with hq|hq
 ·obtain⟨its,r',pl,hz⟩:=I.list hq;have hlen:=r'.length;exact Calls.call_len_list pl.isList (by simp only[aY]<;>omega) ⟨.int ys.length,H,I.tok _,⟨s.toks+1,by rw[aY,hlen]⟩,q⟩
 ·obtain⟨its,r',pl,hz⟩:=I.tuple hq;have hlen:=r'.length;exact len_tuple pl (by simp only[aY]<;>omega) ⟨.int ys.length,H,I.tok _,⟨s.toks+1,by rw[aY,hlen]⟩,q⟩
theorem xJ:kG X (.type "tuple") (λxs H Q=>∃p ys,xs=[.ref p]/\((SqL X.K H p ys/\∀l,H l=none->Q (.ref l) (upd H l<|.tup ys))\/(SqT X.K H p ys/\Q (.ref p) H))):=by
 intro pins s σ H xs us Q I r h;obtain⟨p,ys,rfl,h⟩:=h;obtain⟨u,rfl,rx⟩:=oE r;cases rx
 rcases h with⟨hq,q⟩|⟨hq,q⟩
 ·obtain⟨its,r',pl,hz⟩:=I.list hq;have hlen:=r'.length;refine call_tuple_list pl.isList (λh' kp=> ?_) (by simp only[aY]<;>omega);have I1:Inv X pins σ H {s with heap:=h'}:=I.kept (t':=s.toks) kp
  have I2:Inv X pins σ (upd H h'.objs.size<|.tup ys) {s with heap:=h'.push {cls:=.type "tuple",data:=.seq its.toArray}}:=
   I1.laid (t':=s.toks) (λb o e=>aJ _ e) (aP _) (show ObjOk X.prog X.w _ _ _ (.tup ys) from⟨hz,its,r',IsTupD.new _ _⟩)
  exact⟨.ref h'.objs.size,_,I2,rfl,q _ (I1.hok.fresh<|aP _)⟩
 ·obtain⟨its,r',pl,hz⟩:=I.tuple hq;exact call_tuple_same pl ⟨.ref p,H,I,rfl,q⟩
def tyV(K:aB)(T:String)(x:V)(H:Hp):Prop:=match x with
 |.str _=>T="str"
 |.int _=>T="int"
 |.ref p=>(T="list"/\∃xs,SqL K H p xs)\/(T="tuple"/\∃o,K.lookup p=some o/\o.cls=.type "tuple"/\o.dict=none)\/
   (T="dict"/\((∃kvs,H p=some (.dK kvs))\/∃kvs,H p=some (.dT kvs)))\/(T="set"/\∃S n,H p=some (.set S n))
 |_=>False
theorem aMy{pins:List (BG×BJ)}{σ:St}{H:Hp}{s:BF}{T:String}{x:V}{v:BE}(I:Inv X pins σ H s)(r:RelV x v)(ty:tyV X.K T x H):
  s.TypeIs v T/\∀a,v=.ref a->∃ob,s.heap.get? a=some ob/\ob.dict=none:=by
 cases x with
 |str z=>obtain⟨t,rfl⟩:=r;cases(show T="str" from ty);exact⟨typeIs_str s z t,λ_ e=>nomatch e⟩
 |int i=>obtain⟨t,rfl⟩:=r;cases(show T="int" from ty);exact⟨typeIs_int s i t,λ_ e=>nomatch e⟩
 |ref p=>
  cases r
  rcases ty with⟨rfl,xs,hq⟩|⟨rfl,o,hk,hc,hd⟩|⟨rfl,hk⟩|⟨rfl,S,n,hk⟩
  ·obtain⟨its,_,pl,_⟩:=I.list hq;refine⟨pl.isList.typeIs,λa e=> ?_⟩;cases e;obtain⟨o,n,e,c,hd,_⟩:=pl;exact⟨o,e,hd⟩
  ·refine⟨⟨o,I.kIn p o hk,hc⟩,λa e=> ?_⟩;cases e;exact⟨o,I.kIn _ o hk,hd⟩
  ·have z:∃o,s.heap.get? p=some o/\o.ExactDict:=by
    rcases hk with⟨kvs,hk⟩|⟨kvs,hk⟩
    ·obtain⟨_,_,_,_,o,_,_,e,ex,_⟩:=I.hok p _ hk;exact⟨o,e,ex⟩
    ·obtain⟨_,_,_,_,o,_,_,e,ex,_⟩:=I.hok p _ hk;exact⟨o,e,ex⟩
   obtain⟨o,e,ex⟩:=z;refine⟨⟨o,e,ex.1⟩,λa e2=> ?_⟩;cases e2;exact⟨o,e,ex.2.1⟩
  ·obtain⟨o,_,_,_,e,ex,_⟩:=I.hok p _ hk;refine⟨⟨o,e,ex.1⟩,λa e2=> ?_⟩;cases e2;exact⟨o,e,ex.2.1⟩
 |_=>exact False.elim ty
noncomputable def tBM(K:aB)(T:String)(r:V->List V->Hp->VK->Prop)(to:TE)(t:TA):TE:=λσ H Q=>to σ H λx H1=>tyV K T x H1/\t σ H1 λxs H2=>r x xs H2 Q
variable {o e:Expr}{es:List Expr}{to:TE}{t:TA}{name:Str}{apos cpos:Pos}{T id:String}{r:V->List V->Hp->VK->Prop}
theorem aCm(pa:PlainAttrs T)(slot:Slot T name id)(hty:typeOf (.builtin id)=pure (.type "method_descriptor"))(hm:MtR X id r)(ho:PE X o to)(ha:PA X (e::es) t)
  (hbase:attributeBase o name X.env (eval o X.env)=eval o X.env:=by rfl)
  (hfew:((Af cpos (AC (e::es) X.env)).all (fun x=> !x.1) && (backToKw cpos (keywordEach [] X.env)).all (fun x=>x.1.isSome)
  &&decide ((e::es).length+([]:List Keyword).length+(if([]:List Keyword).isEmpty then 0 else 1)<30))=true:=by rfl)
  (hline:(apos.endLine==cpos.line)=true:=by rfl) (hs:AC (e::es) X.env=(false,eval e X.env)::AC es X.env:=by rfl) (hplain:(Af cpos<|AC es X.env).any (·.1)=false:=by rfl):
  PE X (.Call (.Attribute o name apos) (e::es) [] cpos) (tBM X.K T r to t):=by
 intro pins s σ H Q I h;refine wpAny_Call_method_late hbase hfew hline rfl<|thn (ho pins s σ H _ I h) λv s1 ⟨x,H1,I1,r1,ty,q1⟩=> ?_;obtain⟨h1,h2⟩:=aMy I1 r1 ty;refine⟨T,id,pa,slot,hty,h1,h2, ?_⟩;have hA:=ha cpos pins s1 σ H1 _ I1 q1;rw[hs] at hA ⊢;refine Calls.callWith_builtin (by show(false||(Af cpos<|AC es X.env).any (·.1))=false;rw[hplain]<;>rfl)<|Calls.evalArgs_plain ?_;exact thn hA λus s2 ⟨vs,H2,I2,r2,q2⟩=>hm pins s2 σ H2 x vs v us Q I2 r1 r2 q2
/- xs.append(e),list.index on a module's tuple .. are MtR facts of 06m -/
end
def MtM(X:Cx)(id:String)(r:V->List V->Hp->VK->Prop):Prop:=
 ∀ (pins:List (BG×BJ)) (s:BF) (σ:St) (H:Hp) (x:V) (xs:List V) (v:BE) (us:List BE) (Q:VK),Inv X pins σ H s->RelV x v->Vals xs us->r x xs H Q->
  AK (AH X.prog X.w) X.A (call (.builtin id) (v::us)) (EP X pins σ Q) X.xe s
theorem Vals.one:∀ {x:V}{us:List BE},Vals [x] us->∃u,us=[u]/\RelV x u
 |_,_,.cons r .nil=>⟨_,rfl,r⟩
variable {pins:List (BG×BJ)}{σ:St}{H:Hp}{s:BF}{l b:BG}{xs ys zs:List V}
theorem Inv.lset{its its':List BE}{n:Nat}{f:Array BE->Array BE}{t':Nat}(I:Inv X pins σ H s)(hH:H l=some (.lst xs))
  (e:s.heap.get? l=some {cls:=.type "list",data:=.seq its.toArray n}) (hf:f its.toArray=its'.toArray) (hv:Vals ys its') (hz:ys.length<=AL):
  Inv X pins σ (upd H l<|.lst ys) {s with heap:=s.heap.update l<|Obj.mapSeq f,toks:=t'}:=by
 have q:=PySem.IsL.update e f;rw[hf] at q;refine I.write (x:=l) (e:=l) (by rw[hH];exact trivial) (.inl rfl) (λb' u hb hu=>(cO s.heap (Obj.mapSeq f)<|Ne.symm hb).trans hu) ⟨_,q⟩ ?_;exact⟨hz,its',_,hv,q⟩
theorem Inv.lstM(I:Inv X pins σ H s)(hH:H l=some (.lst xs)):xs.length<=AL/\∃ (its:List BE) (n:Nat),Vals xs its/\xs.length=its.length/\s.heap.get? l=some {cls:=.type "list",data:=.seq its.toArray n}:=by obtain⟨z,its,n,r,e⟩:=I.hok l _ hH;exact⟨z,its,n,r,r.length,e⟩
theorem aFY{n:Nat}(h:n<=AL):Builtin.List.listTooLong n=false:=by unfold Builtin.List.listTooLong;exact decide_eq_false<|by omega
def oY:V->List V->Hp->VK->Prop:=λx vs H Q=>∃l xs y,x=.ref l/\vs=[y]/\H l=some (.lst xs)/\xs.length<AL/\Q .non (upd H l (.lst<|xs++[y]))
theorem sG:MtM X "list.append" oY:=by intro pins s σ H x vs v us Q I rx rv h;obtain⟨l,xs,y,rfl,rfl,hH,hz,q⟩:=h;cases rx;obtain⟨u,rfl,ru⟩:=rv.one;obtain⟨z,its,n,r,hl,e⟩:=I.lstM hH;refine call_meets F.slot_list_append ⟨_,e,rfl⟩ F.entry_list_append (F.args_list_append_2 _ _) (PySem.list_append l its.toArray n u<|by rw[aY];omega) ⟨e, ?_⟩;refine⟨.non,_,I.lset (its':=its++[u]) hH e (by simp) (r.append<|.cons ru .nil) ?_,rfl,q⟩;rw[aN,List.length_singleton];omega
def aDJ:V->List V->Hp->VK->Prop:=λx vs H Q=>∃l b xs zs,x=.ref l/\vs=[.ref b]/\H l=some (.lst xs)/\H b=some (.lst zs)/\xs.length+zs.length<=AL/\Q .non (upd H l (.lst<|xs++zs))
theorem aDL:MtM X "list.extend" aDJ:=by
 intro pins s σ H x vs v us Q I rx rv h;obtain⟨l,b,xs,zs,rfl,rfl,hH,hB,hz,q⟩:=h;cases rx;obtain⟨u,rfl,ru⟩:=rv.one;cases ru;obtain⟨z,its,n,r,hl,e⟩:=I.lstM hH;obtain⟨z2,its2,n2,r2,hl2,e2⟩:=I.lstM hB;have hsz:its.toArray.size+its2.toArray.size<=AL:=by rw[aY,aY];omega
 have hlong:¬ (!its.toArray.isEmpty&&Builtin.List.listTooLong (its.toArray.size+its2.toArray.size))=true:=by rw[aFY hsz,Bool.and_false];exact bF
 refine call_meets F.slot_list_extend ⟨_,e,rfl⟩ F.entry_list_extend (F.args_list_extend_2 _ _)
  (AutoSeq1.list_extend_list_list_0 l its.toArray n b its2.toArray n2 hlong (by rw[aY];omega)<|by omega) ⟨e,e2, ?_⟩
 refine⟨.non,_,I.lset (its':=its++its2) hH e (by simp) (r.append r2) ?_,rfl,q⟩;rw[aN];omega
section
variable {prog:AF}{w:AM}{A:BH}{E:BE->BF->Prop}{s:BF}
set_option maxRecDepth 100000 in
end
section
variable {κ:Type}[DecidableEq κ]
noncomputable def fE(kvs:List (κ×V))(k:κ):Option V:=(kvs.find? λkv=>decide<|kv.1=k).map (·.2)
noncomputable def qU(kvs:List (κ×V))(k:κ)(v:V):List (κ×V):=
 if(kvs.any λkv=>decide<|kv.1=k)=true then kvs.map (λkv=>if kv.1=k then(kv.1,v) else kv) else kvs++[(k,v)]
theorem gH{p:κ×V}{r:List (κ×V)}{k:κ}(e:p.1=k):fE (p::r) k=some p.2:=by simp[fE,gL,e]
theorem fF{p:κ×V}{r:List (κ×V)}{k:κ}(e:¬ p.1=k):fE (p::r) k=fE r k:=by simp[fE,gL,e]
theorem vZ(k:κ):∀kvs:List (κ×V),(kvs.any λkv=>decide<|kv.1=k)=(fE kvs k).isSome
 |[]=>rfl
 |p::r=>by
  rw[kN]
  by_cases e:p.1=k
  ·simp only[gH e,decide_eq_true e,aOr,Option.isSome_some]
  ·rw[fF e,decide_eq_false e,aBt];exact vZ k r
theorem mD(k j:κ)(y:V):∀kvs:List (κ×V),fE kvs k=none->fE (kvs++[(k,y)]) j=if j=k then some y else fE kvs j
 |[],_=>by
  by_cases e:k=j
  ·rw[if_pos e.symm];exact gH (p:=(k,y)) e
  ·rw[if_neg λz=>e z.symm];exact fF (p:=(k,y)) e
 |p::r,hn=>by
  rw[aKf];have hk:¬ p.1=k:=λz=>by rw[gH z] at hn;cases hn
  rw[fF hk] at hn;have ih:=mD k j y r hn
  by_cases e:p.1=j
  ·rw[gH e,gH e,if_neg (λz=>hk<|e.trans z)]
  ·rw[fF e,fF e,ih]
theorem tI(kvs:List (κ×V))(k:κ)(v:V):(qU kvs k v).length<=kvs.length+1:=by
 unfold qU
 split
 ·rw[aA];omega
 ·rw[aN,bU,fO];omega
theorem oF{kvs:List (κ×V)}{k:κ}(v:V)(h:fE kvs k=none):qU kvs k v=kvs++[(k,v)]:=by unfold qU;rw[vZ,h];exact if_neg<|by decide
theorem RelO.isSome_eq{o:Option V}{u:Option BE}(r:RelO o u):o.isSome=u.isSome:=by
 cases o with
 |none=>cases u with
  |none=>rfl
  |some _=>exact(show False from r).elim
 |some _=>cases u with
  |none=>exact(show False from r).elim
  |some _=>rfl
theorem RelO.getD{o:Option V}{u:Option BE}{d:V}{d':BE}(r:RelO o u)(rd:RelV d d'):RelV (o.getD d) (u.getD d'):=by
 cases o with
 |none=>cases u with
  |none=>exact rd
  |some _=>exact(show False from r).elim
 |some _=>cases u with
  |none=>exact(show False from r).elim
  |some _=>exact r
theorem KV.val{kvs:List (κ×V)}{vs:List (κ×BE)}(r:KV kvs vs)(k:κ):RelO (fE kvs k) (valueAt vs k):=by
 unfold KV at r
 induction r with
 |nil=>exact True.intro
 |@cons p q ps qs h t ih=>
  obtain⟨h1,h2⟩:=h
  by_cases e:p.1=k
  ·have e':q.1=k:=h1.symm.trans e;have b:valueAt (q::qs) k=some q.2:=by simp[valueAt,gL,e']
   rw[gH e,b];exact h2
  ·have e':¬ q.1=k:=λz=>e (h1.trans z)
   have b:valueAt (q::qs) k=valueAt qs k:=by simp[valueAt,gL,e']
   rw[fF e,b];exact ih
theorem KV.any{kvs:List (κ×V)}{vs:List (κ×BE)}(r:KV kvs vs)(k:κ):(kvs.any λkv=>decide<|kv.1=k)=vs.any λkv=>decide (kv.1=k):=by
 unfold KV at r
 induction r with
 |nil=>rfl
 |cons h t ih=>rw[kN,kN,ih,h.1]
theorem KV.repl{kvs:List (κ×V)}{vs:List (κ×BE)}(r:KV kvs vs)(k:κ){y:V}{u:BE}(ry:RelV y u):
  KV (kvs.map λkv=>if kv.1=k then(kv.1,y) else kv) (vs.map λkv=>if kv.1=k then(kv.1,u) else kv):=by
 unfold KV at r ⊢
 induction r with
 |nil=>exact .nil
 |@cons p q ps qs h t ih=>
  rw[bA,bA];refine .cons ?_ ih;obtain⟨h1,h2⟩:=h
  by_cases e:p.1=k
  ·rw[if_pos e,if_pos<|h1.symm.trans e];exact⟨h1,ry⟩
  ·rw[if_neg e,if_neg (λz=>e<|h1.trans z)];exact⟨h1,h2⟩
theorem KV.put{kvs:List (κ×V)}{vs:List (κ×BE)}(r:KV kvs vs)(k:κ){y:V}{u:BE}(ry:RelV y u):KV (qU kvs k y) (stored vs k u):=by
 unfold qU stored;rw[r.any k]
 by_cases e:(vs.any λkv=>decide<|kv.1=k)=true
 ·rw[if_pos e,if_pos e];exact r.repl k ry
 ·rw[if_neg e,if_neg e];exact Paired.snoc r ⟨rfl,ry⟩
theorem KV.length{kvs:List (κ×V)}{vs:List (κ×BE)}(r:KV kvs vs):kvs.length=vs.length:=Paired.length r
end
theorem aFk{P:AF}{w:AM}{k:Key}{u:BE}(r:RelV (kV k) u):(dS P w).is k u=true:=by
 cases k with
 |inl i=>obtain⟨t,e⟩:=(show ∃t,u=Value.int i t from r);subst e;exact aAn P w i t
 |inr x=>obtain⟨t,e⟩:=(show ∃t,u=Value.str x t from r);subst e;exact aAs P w x t
theorem xP{P:AF}{w:AM}:∀ {ks:List Key}{us:List BE},Vals (ks.map kV) us->ItemsAre (dS P w) ks us
 |[],_,r=>by rw[dL] at r;cases r;exact .nil
 |k::ks,_,r=>by
  rw[bA] at r;cases r with
  |cons h t=>exact .cons (aFk h)<|xP t
abbrev KT(H:Hp):List (List Key×V)->List (List Key×BG×BE)->Prop:=Paired λp q=>p.1=q.1/\H q.2.1=some (.tup<|p.1.map kV)/\RelV p.2 q.2.2
theorem KT.val{kvs:List (List Key×V)}{xs:List (List Key×BG×BE)}(r:KT H kvs xs)(k:List Key):RelO (fE kvs k) ((atKey xs k).map (·.2)):=by
 induction r with
 |nil=>exact True.intro
 |@cons p q ps qs h t ih=>
  obtain⟨h1,_,h2⟩:=h
  by_cases e:p.1=k
  ·have e':q.1=k:=h1.symm.trans e;have b:atKey (q::qs) k=some q.2:=by simp[atKey,gL,e']
   rw[gH e,b];exact h2
  ·have e':¬ q.1=k:=λz=>e (h1.trans z)
   have b:atKey (q::qs) k=atKey qs k:=by simp[atKey,gL,e']
   rw[fF e,b];exact ih
theorem KT.repl{kvs:List (List Key×V)}{xs:List (List Key×BG×BE)}(r:KT H kvs xs)(k:List Key){y:V}{u:BE}(ry:RelV y u):
  KT H (kvs.map λkv=>if kv.1=k then(kv.1,y) else kv) (xs.map<|putAt k u):=by
 induction r with
 |nil=>exact .nil
 |@cons p q ps qs h t ih=>
  rw[bA,bA];refine .cons ?_ ih;obtain⟨h1,h2,h3⟩:=h;unfold putAt
  by_cases e:p.1=k
  ·rw[if_pos e,if_pos<|h1.symm.trans e];exact⟨h1,h2,ry⟩
  ·rw[if_neg e,if_neg (λz=>e<|h1.trans z)];exact⟨h1,h2,h3⟩
theorem KT.put{kvs:List (List Key×V)}{xs:List (List Key×BG×BE)}(r:KT H kvs xs)(k:List Key){y:V}{u:BE}(hb:H b=some (.tup<|k.map kV))(ry:RelV y u):
  KT H (qU kvs k y) (storedH xs k b u):=by
 have e:(kvs.any λkv=>decide<|kv.1=k)=(atKey xs k).isSome:=by rw[vZ,(r.val k).isSome_eq,aFg]
 unfold qU storedH;rw[e]
 by_cases q:(atKey xs k).isSome=true
 ·rw[if_pos q,if_pos q];exact r.repl k ry
 ·rw[if_neg q,if_neg q];exact Paired.snoc r ⟨rfl,hb,ry⟩
theorem KT.keeps{H':Hp}{kvs:List (List Key×V)}{xs:List (List Key×BG×BE)}(r:KT H kvs xs)(ht:∀b ys,H b=some (.tup ys)->H' b=some (.tup ys)):KT H' kvs xs:=
 Paired.mapP r λ_ _ z=>⟨z.1,ht _ _ z.2.1,z.2.2⟩
variable {P:AF}{w:AM}{h:BI}{a:BG}
theorem aLg{u:HO}(ok:HOk P w H h)(e:Rd H a u):ObjOk P w H h a u:=e.ok ok
theorem aHW{kvs:List (Key×V)}(ok:HOk P w H h)(e:Rd H a (.dK kvs)):kvs.length<=AL/\(a==AW)=false/\∃vs,KV kvs vs/\h.DictOf (dS P w) a vs:=
 show ObjOk P w H h a (.dK kvs) from aLg ok e
theorem aLj{kvs:List (Key×V)}(ok:HOk P w H h)(e:H a=some (.dK kvs)):kvs.length<=AL/\(a==AW)=false/\∃vs,KV kvs vs/\h.DictOf (dS P w) a vs:=aHW ok<|.inl e
theorem nH{ks:List Key}(ok:HOk P w H h)(e:H a=some (.tup<|ks.map kV)):(AQ<|dS P w).is h ks a:=by obtain⟨_,its,r,o,h1,h2,⟨n,h3⟩,_⟩:=(show ObjOk P w H h a (.tup<|ks.map kV) from ok a _ e);exact⟨o,its.toArray,n,h1,h2,h3,by simpa using xP r⟩
theorem aIn{kvs:List (List Key×V)}(ok:HOk P w H h)(e:Rd H a (.dT kvs)):kvs.length<=AL/\(a==AW)=false/\
  ∃xs,KT H kvs xs/\h.DictOfH (AQ<|dS P w) a xs:=by
 obtain⟨z,y,xs,r,o,es,ep,h1,h2,h3,h4,h5⟩:=(show ObjOk P w H h a (.dT kvs) from aLg ok e);refine⟨z,y,xs,r,o,es,ep,h1,h2,h3,h4,λx hx=> ?_,h5⟩
 have all:∀ {l:List (List Key×V)}{m:List (List Key×BG×BE)},KT H l m->∀x∈m,(AQ<|dS P w).is h x.1 x.2.1:=by
  intro l m q
  induction q with
  |nil=>intro x hx;exact nomatch hx
  |@cons p q ps qs hq t ih=>
   intro x hx
   rcases aU.mp hx with e|hx
   ·subst e;exact nH ok (by rw[<-hq.1];exact hq.2.1)
   ·exact ih x hx
 exact all r x hx
theorem aOg{kvs:List (List Key×V)}(ok:HOk P w H h)(e:H a=some (.dT kvs)):kvs.length<=AL/\(a==AW)=false/\
  ∃xs,KT H kvs xs/\h.DictOfH (AQ<|dS P w) a xs:=aIn ok<|.inl e
def DGet(H:Hp)(a:BG)(y:V)(r:Option V):Prop:=
 (∃kvs k,Rd H a (.dK kvs)/\y=kV k/\r=fE kvs k)\/∃kvs k b,Rd H a (.dT kvs)/\y=.ref b/\H b=some (.tup<|k.map kV)/\r=fE kvs k
def DPut(H:Hp)(a:BG)(y v:V)(H':Hp):Prop:=
 (∃kvs k,H a=some (.dK kvs)/\y=kV k/\kvs.length<AL/\H'=upd H a (.dK<|qU kvs k v))\/
 ∃kvs k b,H a=some (.dT kvs)/\y=.ref b/\H b=some (.tup<|k.map kV)/\kvs.length<AL/\H'=upd H a (.dT<|qU kvs k v)
theorem DGet.k{H:Hp}{a:BG}{kvs:List (Key×V)}{k:Key}(e:H a=some (.dK kvs)):DGet H a (kV k) (fE kvs k):=.inl ⟨kvs,k,.inl e,rfl,rfl⟩
theorem DPut.k{H:Hp}{a:BG}{kvs:List (Key×V)}{k:Key}{v:V}(e:H a=some (.dK kvs))(hl:kvs.length<AL):DPut H a (kV k) v (upd H a (.dK<|qU kvs k v)):=.inl ⟨kvs,k,e,rfl,hl,rfl⟩
variable {y v:V}{u r:BE}{o:Option V}{A:BH}{E:BE->BF->Prop}
theorem Inv.big(I:Inv X pins σ H s):AW<s.heap.objs.size:=by have h:AR<s.heap.objs.size:=(I.mod.glob.keeps I.bk).lt;exact oP (by decide) h
theorem nJ{h':BI}{t':Nat}{ob:HO}(I:Inv X pins σ H s)(mu:Mut (H a))(hs:Heap.SameBut a s.heap h')(he:∃q,h'.get? a=some q)(new:ObjOk X.prog X.w (upd H a ob) h' a ob):
  Inv X pins σ (upd H a ob) {s with heap:=h',toks:=t'}:=
 I.write (x:=a) (e:=a) mu (.inl rfl) (λb q hb z=>(hs.2 b hb).trans z) he new
theorem aHC{H':Hp}{h':BI}{kvs:List (Key×V)}{vs:List (Key×BE)}(z:kvs.length<=AL)(hd:(a==AW)=false)(rel:KV kvs vs)(dd:h'.DictOf (dS P w) a vs):
  ObjOk P w H' h' a (.dK kvs):=⟨z,hd,vs,rel,dd⟩
theorem aEt{H':Hp}{Q:Unit->BF->Prop}(hu:A.units+1<AO)(I:Inv X pins σ H s)(g:DPut H a y v H')(ry:RelV y u)(rv:RelV v r)(h:∀s',Inv X pins σ H' s'->Q () s'):
  AK (AH X.prog X.w) A (setItem (.ref a) u r) Q E s:=by
 rcases g with⟨kvs,k,e,ey,l,eH⟩|⟨kvs,k,b,e,ey,eb,l,eH⟩
 ·subst ey eH;obtain⟨z,hd,vs,rel,dd⟩:=aLj I.hok e;have hz:vs.length<=AL:=by rw[<-rel.length];exact z
  have hl:(qU kvs k v).length<=AL:=by have:=tI kvs k v;omega
  refine wpAny_setItem_pairs (hsz:=hz) (aFk ry) dd λh' dd' hs=>h _ ?_
  have he:∃q,h'.get? a=some q:=let ⟨q,_,_,hq,_⟩:=dd';⟨q,hq⟩
  exact nJ I (by rw[e];exact True.intro) hs he<|aHC hl hd (rel.put k rv) dd'
 ·subst ey eH;cases(show u=Value.ref b from ry);obtain⟨z,hd,xs,rel,dd⟩:=aOg I.hok e;have hz:xs.length<=AL:=by rw[<-Paired.length rel];exact z
  have hl:(qU kvs k v).length<=AL:=by have:=tI kvs k v;omega
  refine wpAny_setItem_heap (hsz:=hz) (Am hu) (nH I.hok eb) dd λh' dd' hs=>h _ ?_
  obtain⟨q,es,ep,hq,h2,h3,h4,_,h5⟩:=dd';refine nJ I (by rw[e];exact True.intro) hs ⟨q,hq⟩ ⟨hl,hd,_,(rel.put k eb rv).keeps λc ys ec=> ?_,q,es,ep,hq,h2,h3,h4,h5⟩;rw[bI<|aNX ec e λz=>nomatch z];exact ec
def aOD(i:Expr):Prop:=∀ov iv,subscripted i false ov iv=operate [ov,iv] (getItem ov iv)
theorem aIZ{prog:AF}{env:Env}{value slice:Expr}{T id:String}{Q:BE->BF->Prop}
  (hl:typeLookup (.type T) "__getitem__"=pure (some<|.builtin id)) (hs:aOD slice)
  (h:AK (AH prog w) A (eval value env) (λo s₁=>AK (AH prog w) A (eval slice env) (λi s₂=>s₂.TypeIs o T/\AK (AH prog w) A (getItem o i) Q E s₂) E s₁) E s):
  AK (AH prog w) A (eval (.Subscript value slice pos) env) Q E s:=by
 refine Subscript_<|AY h (λo s₁ h₁=>AY h₁ (λi s₂ h₂=> ?_) λ_ _ x=>x) λ_ _ x=>x;obtain⟨hT,h₂⟩:=h₂;unfold subscriptTail;refine AA ?_;rw[getitemInPython_of_ne hT.not_modules];refine AA<|BC hT hl ?_
 have fin:AK (AH prog w) A (subscripted slice false o i) (λr s₃=>AK (AH prog w) A (letTemporaryGo value o r>>=λ_=>pure r) Q E s₃) E s₂:=by rw[hs o i];exact wpAny_operating<|AY h₂ (λr s₃ h₃=>AA (wpAny_letTemporaryGo<|AB h₃)) λ_ _ x=>x
 first
  |exact AB (AA fin)
  |exact AA (AB<|AA fin)
  |exact AA fin
noncomputable def aLf(td ty tv:TE):TS:=λD σ H=>tv σ H λv H1=>td σ H1 λx H2=>ty σ H2 λy H3=>∃a H4,x=.ref a/\DPut H3 a y v H4/\D.nx σ H4
variable {o i value:Expr}{pos' tpos:Pos}{td ty tv:TE}
theorem aIN(hu:X.A.units+1<AO)(ho:PE X o td)(hi:PE X i ty)(hv:PE X value tv)(hs:AX value (some<|.Subscript o i pos') pos.line X.env=pure false):
  PS X (.Assign [.Subscript o i pos'] value pos) (aLf td ty tv):=by
 intro pins s σ H D I h;refine wpAny_Assign_Subscript (thn (hv pins s σ H _ I h) λr s1 ⟨v,H1,I1,rv,q1⟩=>thn (ho pins s1 σ H1 _ I1 q1) λu s2 ⟨x,H2,I2,rx,q2⟩=>thn (hi pins s2 σ H2 _ I2 q2) λiv s3 ⟨y,H3,I3,ry,a,H4,ex,g,q3⟩=> ?_) hs;subst ex;obtain rfl:u=Value.ref a:=rx;exact aEt hu I3 g ry rv λs4 I4=>⟨σ,H4,I4,q3⟩
theorem aFX(h:BI)(hb:AW<h.objs.size):ObjOk P w H (h.push {cls:=.type "dict",data:=.dict #[]}) h.objs.size (.dK []):=
 ⟨bP _,beq_eq_false_iff_ne.mpr (Ne.symm<|bN hb),[],.nil,Heap.DictOf.new h⟩
noncomputable def aLS:TE:=λ_ H Q=>∀p,H p=none->Q (.ref p) (upd H p<|.dK [])
theorem aGi:PE X (.Dict [] [] pos) aLS:=λpins s σ H Q I h=>wpAny_Dict_empty ⟨.ref s.heap.objs.size,_,I.laid (a:=s.heap.objs.size) (o:=.dK []) (t':=s.toks) (λ_ _ q=>aJ _ q) (aP _)<|aFX s.heap I.big,rfl,h _ (I.hok.fresh<|aP _)⟩
abbrev VV:List (V×V)->List (BE×BE)->Prop:=Paired λp q=>RelV p.1 q.1/\RelV p.2 q.2
structure M1(X:Cx)(o:Expr)(m:Str)(apos:Pos)(e:Expr)(cpos:Pos):Prop where
 base:attributeBase o m X.env (eval o X.env)=eval o X.env
 few:((Af cpos (AC [e] X.env)).all (fun x=> !x.1) && (backToKw cpos (keywordEach [] X.env)).all (fun x=>x.1.isSome)
 &&decide (([e]:List Expr).length+([]:List Keyword).length+(if([]:List Keyword).isEmpty then 0 else 1)<30))=true
 line:(apos.endLine==cpos.line)=true
 trees:Af cpos (AC [e] X.env)=[(false,eval e X.env)]
structure M2(X:Cx)(o:Expr)(m:Str)(apos:Pos)(e f:Expr)(cpos:Pos):Prop where
 base:attributeBase o m X.env (eval o X.env)=eval o X.env
 few:((Af cpos (AC [e,f] X.env)).all (fun x=> !x.1) && (backToKw cpos (keywordEach [] X.env)).all (fun x=>x.1.isSome)
 &&decide (([e,f]:List Expr).length+([]:List Keyword).length+(if([]:List Keyword).isEmpty then 0 else 1)<30))=true
 line:(apos.endLine==cpos.line)=true
 trees:Af cpos (AC [e,f] X.env)=[(false,eval e X.env),(false,eval f X.env)]
def IsD(H:Hp)(a:BG):Prop:=(∃kvs,Rd H a<|.dK kvs)\/∃kvs,Rd H a<|.dT kvs
theorem aMf(I:Inv X pins σ H s)(d:IsD H a):
  s.TypeIs (.ref a) "dict"/\(∀b,Value.ref a=.ref b->∃ob,s.heap.get? b=some ob/\ob.dict=none)/\(a==AW)=false:=by
 rcases d with⟨kvs,e⟩|⟨kvs,e⟩
 ·obtain⟨_,hd,vs,_,dd⟩:=aHW I.hok e;refine⟨dd.typeIs,λb q=> ?_,hd⟩;cases q;obtain⟨ob,_,_,h1,h2,_⟩:=dd;exact⟨ob,h1,h2.2.1⟩
 ·obtain⟨_,hd,xs,_,dd⟩:=aIn I.hok e;refine⟨dd.typeIs,λb q=> ?_,hd⟩;cases q;obtain⟨ob,_,_,h1,h2,_⟩:=dd;exact⟨ob,h1,h2.2.1⟩
variable {d:V}{o:Option V}
theorem aMh{Q:BE->BF->Prop}(hu:A.units+1<AO)(I:Inv X pins σ H s)(g:DGet H a y o)(ry:RelV y u)(rd:RelV d r)(h:∀w' s',Inv X pins σ H s'->RelV (o.getD d) w'->Q w' s'):
  AK (AH X.prog X.w) A (call (.builtin "dict.get") [.ref a,u,r]) Q E s:=by
 rcases g with⟨kvs,k,e,ey,l⟩|⟨kvs,k,b,e,ey,eb,l⟩
 ·subst ey;obtain⟨z,hd,vs,rel,dd⟩:=aHW I.hok e;refine call_meetsIn nX dd.typeIs aAf (yS _ _ _) (meets_dict_get_default (dS X.prog X.w) a (aFk ry) hd r) ⟨_,dd.mapOf,h _ _ (I.tok _) ?_⟩;rw[l];exact(rel.val k).getD rd
 ·subst ey;cases(show u=Value.ref b from ry);obtain⟨z,hd,xs,rel,dd⟩:=aIn I.hok e;refine call_meetsIn nX dd.typeIs aAf (yS _ _ _) (meetsH_dict_get_default (AQ<|dS X.prog X.w) a b hd r) ⟨Am hu,k,xs,nH I.hok eb,dd,h _ _ (I.tok _) ?_⟩;rw[l];exact(rel.val k).getD rd
noncomputable def aLW(td ty tx:TE):TE:=λσ H Q=>td σ H λx H1=>∃a,x=.ref a/\IsD H1 a/\ty σ H1 λy H2=>tx σ H2 λz H3=>∃o,DGet H3 a y o/\Q (o.getD z) H3
variable {o f:Expr}{apos cpos:Pos}{tx:TE}
theorem aGt(hu:X.A.units+1<AO)(ho:PE X o td)(he:PE X e ty)(hf:PE X f tx)(m:M2 X o "get" apos e f cpos):PE X (.Call (.Attribute o "get" apos) [e,f] [] cpos) (aLW td ty tx):=by
 intro pins s σ H Q I h;refine wpAny_Call_method m.base m.few m.line jF nX PySem.F.type_dict_get<|thn (ho pins s σ H _ I h) λu s1 ⟨x,H1,I1,rx,a,ex,d,q1⟩=> ?_;subst ex;obtain rfl:u=Value.ref a:=rx;obtain⟨t1,t2,_⟩:=aMf I1 d;refine⟨t1,t2, ?_⟩;rw[m.trees]
 refine Calls.callWith_builtin rfl (Calls.evalArgs_plain<|Calls.spliced_cons (thn (he pins s1 σ H1 _ I1 q1) λiv s2 ⟨y,H2,I2,ry,q2⟩=>Calls.spliced_cons<|thn (hf pins s2 σ H2 _ I2 q2) λfv s3 ⟨z,H3,I3,rz,ov,g,q3⟩=>Calls.spliced_nil ?_))
 exact aMh hu I3 g ry rz λw' s4 I4 rw'=>⟨_,H3,I4,rw',q3⟩
end L2
namespace Att
open PySem PySem.W PySem.Calls PyProof.Rows
theorem tR{P:Params}{h:BI}:∀ (ns:List Int) (vs:List BE),WellAll P h vs (ns.map WData.int)->IntsAre vs ns:=by
 intro ns
 induction ns with
 |nil=>intro vs w;rw[dL] at w;cases w;exact .nil
 |cons n ns ih=>
  intro vs w;rw[bA] at w;cases w with
  |cons a b=>cases a;exact .cons _ _<|ih _ b
theorem aEb{l:OpenLaw}{n:Nat}(hn:l.most=some n){P:Params}{h:BI}{args:List WData}{vals:List BE}
  (hpre:l.row.toRowW.claim.pre args=true) (hwl:WellAll P h vals args):
  ∃a vs ns,vals=[Value.ref a]/\args=[WData.list<|ns.map WData.int]/\h.get? a=some {cls:=.type "list",data:=.seq vs.toArray}/\IntsAre vs ns/\ns.length<=n:=by
 have hsh:WShape.hasAll [] args [.list .int]=true:=(pre_splitW hpre).1;have hc:l.pre.holds [] {args:=args}=true:=(pre_splitW hpre).2;obtain⟨d,r,rfl,h1,h2⟩:=hasAllW_cons hsh;obtain rfl:=hasAllW_nil h2;obtain⟨xs,rfl,h3⟩:=hasW_list h1;obtain⟨ns,rfl⟩:=items_int h3
 have hlen:ns.length<=n:=by
  unfold OpenLaw.pre at hc
  have h4:(WTm.not<|.lt (.lit<|.int (n:Int)) (.len<|.arg 0)).holds [] {args:=[.list<|ns.map .int]}=true:=by have h4:=(holds_andW hc).1;rw[hn] at h4;exact h4
  have h5:=condW_of h4 (w_not<|w_lt w_lit (w_len_list<|w_arg rfl));rw[aA] at h5;refine Nat.le_of_not_lt λq=> ?_
  have q':(n:Int)<((ns.length:Nat):Int):=by omega
  first
   |(rw[decide_eq_true q'] at h5;exact absurd h5<|by decide)
   |(simp at h5;omega)
 cases hwl with
 |cons w1 w2=>
  cases w2;cases w1 with
  |list ho hall=>exact⟨_,_,ns,rfl,rfl,ho,tR ns _ hall,hlen⟩
theorem aEn(l:OpenLaw)(args:List WData):l.row.toRowW.claim.post args (.bool true) args=true:=
 postW_of (r:=l.row.toRowW) (X:=(true==true))
  (show WShape.has [] (.bool true) .bool=true by first|rfl|decide|simp[WShape.has,WShape.arms,WShape.armsAll])
  (show(WTm.eq .res (.lit<|.bool true)).value [] {args:=args,res:=some<|.bool true,after:=args}=some (.bool<|true==true) from w_eq_bool (w_res rfl) w_lit) rfl
theorem attach_call{l:OpenLaw}{n:Nat}{q:AF}{loose:List Str}{XP:(Str->Option BE)->BI->Prop}{YP:AM->BI->Prop}{d:DefRec}
  (hn:l.most=some n) (hdf:d.params.defaults=[])
  (call:∀ (w:AM) (s₀ s₁:BF) (mg mb:Str→Option BE) (fa:BG) (o:BJ) (pm cd doc:BE) (a:BG) (vs:List BE) (ns:List Int),
   Ground q loose [] XP w s₀ mg mb s₁.heap->YP w s₁.heap->
   s₁.heap.get? fa=some o->o.data=.func (docDef d.name d.params d.body d.scope pm cd doc)->s₁.heap.CodeRec cd d.name->mg d.name=some (.ref fa)->
   s₁.heap.get? a=some {cls:=.type "list",data:=.seq vs.toArray}->IntsAre vs ns->ns.length<=n->s₁.gens= #[]->
   codeAny (AH l.prog w) callerA (.call (.ref fa) ⟨[.ref a],[]⟩) (λr s'=>r=.ok (.ret (.bool true))/\OldK s₁.heap s'.heap/\s'.os=s₁.os/\AllBare s'.gens) s₁):
  WalkO q loose XP YP l.row.toRowW d [] (λf vs=>PySem.call f vs):=by
 intro w s₀ s₁ mg mb G Y fa o pm cd doc dV kV ho hd hcd hD hmg hg args vals as hpre hlay hrd hwl hlo;obtain rfl:dV=.none:=Dflts.none hD hdf;obtain rfl:kV=.none:=Dflts.noKw hD;obtain⟨a,vs,ns,rfl,rfl,hobj,hints,hlen⟩:=aEb hn hpre hwl;refine enter_call<|BA (call w s₀ s₁ mg mb fa o pm cd doc a vs ns G Y ho (fd_plain hd) hcd hmg hobj hints hlen hg) λr s' hq=> ?_;obtain⟨rfl,h2,h3,h4⟩:=hq;exact⟨.inl ⟨.bool true,.bool true,[],rfl,λ_=>rfl,.bool true,aEn l _,λ_=>⟨List.Pairwise.nil,λ_ hm=>(nomatch hm)⟩⟩,h2,h3,h4⟩
end Att
namespace L2
open PySem PySem.Spec PyProof.Rows
theorem xN:∀ {vs:List BE}{ns:List Int},IntsAre vs ns->Vals (ns.map V.int) vs
 |_,_,.nil=>.nil
 |_,_,.cons n t h=>.cons ⟨t,rfl⟩<|xN h
def aNb(H:Hp):Prop:=∀b,H b=none\/∃o xs,H b=some (.frz o<|.lst xs)
theorem aFU{P:AF}{w:AM}{K:aB}{mg mb:Str->Option BE}{CX:CXT}{k:Nat}{fa a:BG}{fd:Aa}{x:Str}{sp:Sp}{s₁:BF}{vs:List BE}{ns:List Int}
  (KX:K.In s₁.heap) (hns:s₁.heap.Ns AR mg) (hb:s₁.heap.Ns builtinsNs mb) (hbb:∀x:Str,x≠"__name__"->mb x=Ae x) (hlim:s₁.heap.NoLimit) (hg:s₁.gens= #[])
  (ha:s₁.heap.get? a=some {cls:=.type "list",data:=.seq vs.toArray}) (hi:IntsAre vs ns) (hl:ns.length<=AL) (hr:Room k callerA)
  (F:∀base:BI,K.In base->base.Ns AR mg->FnOk P w K mg base CX k fa fd [x] sp) (hbind:∀ (s:BF) (u:BE),BindsTo s fd ⟨[u],[]⟩ [(x,u)])
  (hsp:∀H:Hp,aNb H->SqL K H a (ns.map V.int)->sp [.ref a] H (λv _=>v=.bl true) λ_ _ _=>False)
  (hCX:∀H e s',CX [] H s₁ (λ_ _ _=>False) e s'->False):
  codeAny (AH P w) callerA (.call (.ref fa) ⟨[.ref a],[]⟩) (λr s'=>r=.ok (.ret<|.bool true)/\OldK s₁.heap s'.heap/\s'.os=s₁.os/\AllBare s'.gens) s₁:=by
 have rv:=xN hi;have lenV:=hi.length
 have core:∀H:Hp,aNb H->SqL K H a (ns.map V.int)->HOk P w H s₁.heap->(∀b,H b≠none->b=a)->(H a≠none->K.lookup a=none)->
   codeAny (AH P w) callerA (.call (.ref fa) ⟨[.ref a],[]⟩) (λr s'=>r=.ok (.ret<|.bool true)/\OldK s₁.heap s'.heap/\s'.os=s₁.os/\AllBare s'.gens) s₁:=by
  intro H hO hS hok hA hK;have base_of:∀ {b:BG}{o:BJ},s₁.heap.get? b=some o->H b=none->(zE s₁.heap H).get? b=some o:=λe n=>aGq e n
  have noA:∀ {b:BG}{o:BJ}{es:Array DictEntry}{ep:Nat},s₁.heap.get? b=some o->o.data=.dict es ep->H b=none:=λ{b o es ep} e d=>by
   cases q:H b with
   |none=>rfl
   |some u=>have e':b=a:=hA b (by rw[q];simp);subst e';rw[ha] at e;cases e;have d':Data.seq vs.toArray _=Data.dict es ep:=d;cases d'
  have nsK:∀ {b:BG}{m:Str->Option BE},s₁.heap.Ns b m->(zE s₁.heap H).Ns b m:=λ{b m} ⟨o,es,ep,e,d,r⟩=>⟨o,es,ep,base_of e<|noA e d,d,r⟩
  have hKb:K.In (zE s₁.heap H):=fun b o e=>base_of (KX b o e) (by
   cases q:H b with
   |none=>rfl
   |some u=>
    have e':b=a:=hA b (by rw[q];simp);subst e'
    rw[hK (by rw[q];simp)] at e;cases e)
  have hM:Mod K mg (zE s₁.heap H):=⟨hKb,nsK hns,⟨mb,nsK hb,hbb⟩,let ⟨mc,h1,h2⟩:=hlim;⟨mc,nsK h1,h2⟩⟩;have e0:aKo P w K mg (zE s₁.heap H) callerA [] s₁ H:=⟨rfl,hM,λb o e=>aJt e,aEY<|aEF _ _,trivial,λb hb=>absurd (show b∈([]:List BG) from hb)<|by simp,hok,.of_eq hg⟩;refine BA ((F _ hKb<|nsK hns).run callerA [] s₁ H ⟨[.ref a],[]⟩ [.ref a] [.ref a] _ _ hr e0 (hbind s₁<|.ref a) (.cons rfl .nil)<|hsp H hO hS) λr s' h=> ?_
  cases r with
  |error e=>exact(hCX H e s' h).elim
  |ok fl=>
   cases fl with
   |next=>exact False.elim h
   |brk=>exact False.elim h
   |cont=>exact False.elim h
   |ret u=>
    obtain⟨v,H',os,bare,un,hok',r',q⟩:=h;have q':v=.bl true:=q;subst q';obtain rfl:u=Value.bool true:=r';refine⟨rfl,OldK.of_keep λb o e=> ?_,os,bare⟩;cases q:H b with
    |none=>exact un.keep b o e q (by intro z;exact absurd (show b∈([]:List BG) from z)<|by simp)<|by simp
    |some u=>
     rcases hO b with z|⟨ob,xs,z⟩
     ·rw[q] at z;cases z
     ·have z2:=un.frzs b ob _ z;obtain⟨e1,_⟩:=hok b _ z;obtain⟨e2,_⟩:=hok' b _ z2;rw[e] at e1;cases e1;exact e2
 cases hk:K.lookup a with
 |some o=>
  have e:=KX a o hk;rw[ha] at e;cases e;refine core (λ_=>none) (λ_=>.inl rfl) (.inr ⟨_,vs.toArray,_,hk,rfl,rfl,rfl,by rw[aY,lenV];exact hl,by simpa using rv⟩) (λb u z=>by have z':(none:Option HO)=some u:=z;cases z') (λb z=>absurd rfl z) λz=>absurd rfl z
 |none=>
  refine core (λb=>if b=a then some (.frz {cls:=.type "list",data:=.seq vs.toArray} (.lst<|ns.map V.int)) else none) (λb=> ?_) (.inl<|.inr ⟨{cls:=.type "list",data:=.seq vs.toArray},if_pos rfl⟩) (λb u z=> ?_) (λb z=> ?_) λ_=>hk
  ·by_cases hb:b=a
   ·exact .inr ⟨_,_,if_pos hb⟩
   ·exact .inl<|if_neg hb
  ·by_cases hb:b=a
   ·have z':=(if_pos hb).symm.trans z;cases z';subst hb;exact⟨ha,by rw[aA];exact hl,vs,_,rv,ha⟩
   ·have z':=(if_neg hb).symm.trans z;cases z'
  ·by_cases hb:b=a
   ·exact hb
   ·exact absurd (if_neg hb) z
noncomputable abbrev KOf{K:aB}{h:BI}(_:K.In h):aB:=K
theorem walk_of{l:PySem.W.OpenLaw}{n k:Nat}{q:AF}{loose:List Str}{XP:(Str->Option BE)->BI->Prop}{YP:AM->BI->Prop}{d:DefRec}{K:Params->aB}{CX:AM->CXT}{sp:AM->Sp}{x:Str}
  (hn:l.most=some n) (hn2:n<=AL) (hdf:d.params.defaults=[]) (hr:Room k callerA)
  (hY:∀ (w:AM) (h:BI),YP w h->(K w.params).In h)
  (F:∀ (w:AM) (mg:Str→Option BE) (fa:BG) (h:BI),(K w.params).In h→h.Ns AR mg→mg d.name=some (.ref fa)→
   ∃fd:Aa,(∀ (s:BF) (u:BE),BindsTo s fd ⟨[u],[]⟩ [(x,u)])/\
    ∀base:BI,(K w.params).In base->base.Ns AR mg->FnOk l.prog w (K w.params) mg base (CX w) k fa fd [x] (sp w))
  (hsp:∀ (w:AM) (H:Hp) (a:BG) (ns:List Int),ns.length<=n->aNb H->SqL (K w.params) H a (ns.map V.int)->sp w [.ref a] H (λv _=>v=.bl true) λ_ _ _=>False)
  (hCX:∀ (w:AM) (H:Hp) (s:BF) (e:BE) (s':BF),CX w [] H s (λ_ _ _=>False) e s'->False):
  PySem.W.WalkO q loose XP YP l.row.toRowW d [] (λf vs=>PySem.call f vs):=by
 refine Att.attach_call hn hdf λw s₀ s₁ mg mb fa o pm cd doc a vs ns G Y ho hd hcd hmg hobj hints hlen hg=> ?_
 have KX:=hY w _ Y;obtain⟨fd,hb,hF⟩:=F w mg fa _ KX G.T.g hmg;exact aFU KX G.T.g G.T.b G.T.builtins G.T.nolimit hg hobj hints (cG hlen hn2) hr hF hb (λH hO hS=>hsp w H a ns hlen hO hS) λH e s'=>hCX w H s₁ e s'
noncomputable def iA(s:BK):Arguments:=match s with
 |.FunctionDef _ a _ _ _ _ _ _ _ _=>a
 |_=>{posonlyargs:=[],args:=[],vararg:=none,kwonlyargs:=[],kw_defaults:=[],kwarg:=none,defaults:=[]}
noncomputable def eO(s:BK):List BK:=match s with
 |.FunctionDef _ _ b _ _ _ _ _ _ _=>b
 |_=>[]
noncomputable def bD(s:BK):Scope:=match s with
 |.FunctionDef _ _ _ _ _ _ sc _ _ _=>sc
 |_=>{kind:=.function,names:=[],isGenerator:=false,isCoroutine:=false}
noncomputable abbrev CX0:CXT:=λ_ _ _ _ _ _=>False
noncomputable abbrev E0:XK:=λ_ _ _=>False
theorem aKX{X:Cx}:aCq CX0 X E0:=λ_ _ _ _ _ _ _ h=>h.elim
structure Fun(K:aB)(x qual:Str)(st:BK)(f:BG)(fd:Aa):Prop where
 ex:∃ (oc:BE) (od:Option BG) (kV doc pm:BE) (an:Option BG) (cdv ct:BE) (osl:Array (Option BE)),
  fd=dU x qual (iA st) (eO st) (bD st) .none kV doc pm an cdv ct/\K.lookup f=some ⟨oc,od,.func fd,osl⟩/\jN K cdv qual=true
 kp:fG K (.ref f)=true
variable {P:AF}{w:AM}{K:aB}{mg:Str->Option BE}{base:BI}
theorem Fun.ok{x qual:Str}{st:BK}{f:BG}{fd:Aa}{N ps:List Str}{k:Nat}{sp:Sp}(F:Fun K x qual st f fd)(S:kA N ps (bD st))(len:∀vs H Q E,sp vs H Q E->vs.length=ps.length)
  (hbody:∀ (cdv:BE) (A:BH) (outer:List Env) (s:BF) (H:Hp) (vs:List V) (Q:VK) (E:XK),Room k (A.deeper (Ar qual (bD st) s.heap.objs.size f cdv))→sp vs H Q E→
   ∃t,PSs (jP CX0 P w K mg base N qual (bD st) f cdv A outer s H E).nox (eO st) t/\t {nx:=λ_ H'=>Q .non H',rt:=Q} (start N vs) H):FnOk P w K mg base CX0 (k+1) f fd ps sp:=by
 obtain⟨oc,od,kV,doc,pm,an,cdv,ct,osl,rfl,lk,hcd⟩:=F.ex;refine aKT lk hcd S len λA outer s H vs Q E hr hsp=> ?_
 obtain⟨t,h,q⟩:=hbody cdv A outer s H vs Q E hr hsp;exact⟨t,h.nox,q⟩
theorem Fun.binds{x qual:Str}{st:BK}{f:BG}{fd:Aa}{ps:List Str}(F:Fun K x qual st f fd)
  (h:∀ (kV doc pm:BE) (an:Option BG) (cdv ct:BE) (us:List BE),us.length=ps.length->bindArgs (dU x qual (iA st) (eO st) (bD st) .none kV doc pm an cdv ct) ⟨us,[]⟩=pure (ps.zip us)):Binds K fd ps []:=by
 obtain⟨oc,od,kV,doc,pm,an,cdv,ct,osl,rfl,lk,hcd⟩:=F.ex;exact .all<|h kV doc pm an cdv ct
theorem aGI{x qual:Str}{st:BK}{f:BG}{oc:BE}{od an:Option BG}{osl:Array (Option BE)}{kV doc pm cdv ct:BE}(l:K.lookup f=some ⟨oc,od,.func<|dU x qual (iA st) (eO st) (bD st) .none kV doc pm an cdv ct,osl⟩)
  (c:jN K cdv qual=true) (k:fG K (.ref f)=true):Fun K x qual st f (dU x qual (iA st) (eO st) (bD st) .none kV doc pm an cdv ct):=⟨⟨oc,od,kV,doc,pm,an,cdv,ct,osl,rfl,l,c⟩,k⟩
theorem fI{n:Nat}(h:n<=10000):n<AL:=dC h<|by decide
variable {X:Cx}
theorem pv(i:Nat){x:Str}{pos:Pos}(hN:X.N[i]? =some x:=by rfl)(hv:Vis X.env.scope x:=by first|exact Or.inl rfl|exact Or.inr (Or.inl rfl)|exact Or.inr (Or.inr rfl))(hd:(x==("__debug__":Str))=false:=by decide)
  (hcd:(x==("__classdict__":Str))=false:=by decide):PE X (.Name x pos) (jO i):=aMw hN hv hd hcd
theorem aGF{A B:Prop}(h:B):if false=true then A else B:=by rw[if_neg bF];exact h
theorem aGG{A B:Prop}(h:A):if true=true then A else B:=by rw[if_pos rfl];exact h
def Same(H H':Hp):Prop:=∀b o,H b=some o->H' b=some o
theorem Same.refl(H:Hp):Same H H:=λ_ _ h=>h
theorem Same.trans{H H1 H2:Hp}(a:Same H H1)(b:Same H1 H2):Same H H2:=λc o h=>b c o<|a c o h
theorem Same.free{H H':Hp}(e:Same H H'){l:BG}(h:H' l=aNk):H l=aNk:=by
 cases q:H l with
 |none=>rfl
 |some o=>rw[e l o q] at h;cases h
theorem Same.seq{H H':Hp}{a:BG}{xs:List V}(e:Same H H')(h:SqL K H a xs):SqL K H' a xs:=by
 rcases h with(h|⟨o,h⟩)|h
 ·exact .inl (.inl<|e _ _ h)
 ·exact .inl<|.inr ⟨o,e _ _ h⟩
 ·exact .inr h
noncomputable def wE(X:Cx)(e:Expr):TE:=λσ H Q=>∀ (pins:List (BG×BJ)) (s:BF),Inv X pins σ H s->AK (AH X.prog X.w) X.A (eval e X.env) (EP X pins σ Q) X.xe s
noncomputable def wT(X:Cx)(e:Expr):TT:=λσ H Q=>∀ (pins:List (BG×BJ)) (s:BF),Inv X pins σ H s->AK (AH X.prog X.w) X.A (isTrue e X.env<|eval e X.env) (TP X pins σ Q) X.xe s
noncomputable def wW(X:Cx)(e:Expr):TT:=λσ H Q=>∀ (whole:Sem BE) (pins:List (BG×BJ)) (s:BF),Inv X pins σ H s->AK (AH X.prog X.w) X.A (isTrue e X.env whole) (TP X pins σ Q) X.xe s
noncomputable def wA(X:Cx)(es:List Expr):TA:=λσ H Q=>∀ (pos:Pos) (pins:List (BG×BJ)) (s:BF),Inv X pins σ H s->AK (AH X.prog X.w) X.A (spliced (Af pos<|AC es X.env)) (AP X pins σ Q) X.xe s
noncomputable def wS(X:Cx)(st:BK):TS:=λD σ H=>∀ (pins:List (BG×BJ)) (s:BF),Inv X pins σ H s->AK (AH X.prog X.w) X.A (exec st X.env) (SP X pins D) X.xe s
noncomputable def wSs(X:Cx)(sts:List BK):TS:=λD σ H=>∀ (pins:List (BG×BJ)) (s:BF),Inv X pins σ H s->AK (AH X.prog X.w) X.A (execs sts X.env) (SP X pins D) X.xe s
noncomputable def wG(X:Cx)(tg:Expr):TG:=λv σ H Q=>∀ (pins:List (BG×BJ)) (s:BF) (u:BE),Inv X pins σ H s->RelV v u->
  AK (AH X.prog X.w) X.A (assign tg X.env u) (λ_ s'=>∃σ' H',Inv X pins σ' H' s'/\Q σ' H') X.xe s
noncomputable def wI(X:Cx)(tg iter:Expr):TI:=λσ H R=>∀ (pins:List (BG×BJ)) (s:BF),Inv X pins σ H s->
  AK (AH X.prog X.w) X.A (eval iter X.env) (λv s1=>AK (AH X.prog X.w) X.A (pyIter v) (PIE X pins σ tg R) X.xe s1) X.xe s
variable {e:Expr}{es:List Expr}{st:BK}{sts:List BK}{tg iter:Expr}{σ:St}{H:Hp}
theorem eY:PE X e (wE X e):=λpins s _ _ _ I h=>h pins s I
theorem aHS:PT X e (wT X e):=λpins s _ _ _ I h=>h pins s I
theorem aND:PW X e (wW X e):=λw pins s _ _ _ I h=>h w pins s I
theorem zT:PA X es (wA X es):=λpos pins s _ _ _ I h=>h pos pins s I
theorem aOF:PS X st (wS X st):=λpins s _ _ _ I h=>h pins s I
theorem rV:PSs X sts (wSs X sts):=λpins s _ _ _ I h=>h pins s I
theorem aOM:PG X tg (wG X tg):=λpins s _ _ _ u _ I r h=>h pins s u I r
theorem aOL:PI X tg iter (wI X tg iter):=λpins s _ _ _ I h=>h pins s I
theorem PE.to{t:TE}{Q:VK}(h:PE X e t)(q:t σ H Q):wE X e σ H Q:=λpins s I=>h pins s σ H Q I q
theorem PT.to{t:TT}{Q:Bool->Hp->Prop}(h:PT X e t)(q:t σ H Q):wT X e σ H Q:=λpins s I=>h pins s σ H Q I q
theorem PW.to{t:TT}{Q:Bool->Hp->Prop}(h:PW X e t)(q:t σ H Q):wW X e σ H Q:=λw pins s I=>h w pins s σ H Q I q
theorem PA.to{t:TA}{Q:List V->Hp->Prop}(h:PA X es t)(q:t σ H Q):wA X es σ H Q:=λpos pins s I=>h pos pins s σ H Q I q
theorem PS.to{t:TS}{D:tT}(h:PS X st t)(q:t D σ H):wS X st D σ H:=λpins s I=>h pins s σ H D I q
theorem PSs.to{t:TS}{D:tT}(h:PSs X sts t)(q:t D σ H):wSs X sts D σ H:=λpins s I=>h pins s σ H D I q
theorem wE.imp{Q Q':VK}(h:wE X e σ H Q)(k:∀v H',Q v H'->Q' v H'):wE X e σ H Q':=λpins s I=>thn (h pins s I) λu s' ⟨v,H',I',r,q⟩=>⟨v,H',I',r,k v H' q⟩
theorem wT.imp{Q Q':Bool->Hp->Prop}(h:wT X e σ H Q)(k:∀v H',Q v H'->Q' v H'):wT X e σ H Q':=λpins s I=>thn (h pins s I) λu s' ⟨H',I',q⟩=>⟨H',I',k u H' q⟩
theorem wW.imp{Q Q':Bool->Hp->Prop}(h:wW X e σ H Q)(k:∀v H',Q v H'->Q' v H'):wW X e σ H Q':=λw pins s I=>thn (h w pins s I) λu s' ⟨H',I',q⟩=>⟨H',I',k u H' q⟩
theorem wA.imp{Q Q':List V->Hp->Prop}(h:wA X es σ H Q)(k:∀v H',Q v H'->Q' v H'):wA X es σ H Q':=λpos pins s I=>thn (h pos pins s I) λu s' ⟨v,H',I',r,q⟩=>⟨v,H',I',r,k v H' q⟩
theorem SP.imp{pins:List (BG×BJ)}{D D':tT}{f:Flow}{s:BF}(h:SP X pins D f s)(k1:∀σ H,D.nx σ H->D'.nx σ H)(k2:∀v H,D.rt v H->D'.rt v H)(k3:∀σ H,D.bk σ H->D'.bk σ H)(k4:∀σ H,D.ct σ H->D'.ct σ H):SP X pins D' f s:=by
 cases f with
 |next=>obtain⟨σ',H',I,q⟩:=h;exact⟨σ',H',I,k1 _ _ q⟩
 |brk=>obtain⟨σ',H',I,q⟩:=h;exact⟨σ',H',I,k3 _ _ q⟩
 |cont=>obtain⟨σ',H',I,q⟩:=h;exact⟨σ',H',I,k4 _ _ q⟩
 |ret u=>obtain⟨v,σ',H',I,r,q⟩:=h;exact⟨v,σ',H',I,r,k2 _ _ q⟩
theorem wSs.imp{D D':tT}(h:wSs X sts D σ H)(k1:∀σ H,D.nx σ H->D'.nx σ H)(k2:∀v H,D.rt v H->D'.rt v H)(k3:∀σ H,D.bk σ H->D'.bk σ H)(k4:∀σ H,D.ct σ H->D'.ct σ H):wSs X sts D' σ H:=
 λpins s I=>thn (h pins s I) λf s' q=>q.imp k1 k2 k3 k4
theorem wG.imp{v:V}{Q Q':St->Hp->Prop}(h:wG X tg v σ H Q)(k:∀σ' H',Q σ' H'->Q' σ' H'):wG X tg v σ H Q':=λpins s u I r=>thn (h pins s u I r) λ_ s' ⟨σ',H',I',q⟩=>⟨σ',H',I',k _ _ q⟩
variable {pins:List (BG×BJ)}{F:Hp}{s:BF}
theorem HOk.track{h:BI}{a:BG}{o:HO}(ok:HOk P w H h)(hn:H a=none)(new:ObjOk P w (upd H a o) h a o):HOk P w (upd H a o) h:=λb u e=>by
 by_cases hb:b=a
 ·subst hb;rw[bV] at e;cases e;exact new
 ·rw[bI hb] at e;exact(ok b u e).stay (λ_ _ _ q=>q) (λc q=>by rw[bI<|cC q hn];exact q) λc xs q=>by rw[bI<|cC q hn];exact q
theorem Inv.track{a:BG}{o:HO}(I:Inv X pins σ H s)(hn:H a=none)(h0:X.s₀.heap.objs.size<=a)(hL:a≠X.env.locals)(hc:∀x c,X.env.cells.lookup x=some c->c≠a)
  (hp:∀p∈X.pn++pins,p.1≠a) (new:ObjOk X.prog X.w (upd H a o) s.heap a o):Inv X pins σ (upd H a o) s:=by
 refine⟨I.ok,I.os,I.bare,⟨I.base.keep,I.base.slot,λb u e n hx=> ?_,I.base.there,λb xs e=> ?_,λb u xs e=> ?_,λb ps e=> ?_⟩,I.loc,I.cell, ?_,λx c e=> ?_,λp hp'=> ?_,I.hok.track hn new,I.len⟩
 ·rw[bI (bN<|aV (aR e) h0)];exact I.base.free b u e n hx
 ·have q:=I.base.tups b xs e;rw[bI<|cC q hn];exact q
 ·have q:=I.base.frzs b u xs e;rw[bI<|cC q hn];exact q
 ·obtain⟨m,q⟩:=I.base.tbls b ps e;exact⟨m,by rw[bI<|cC q hn];exact q⟩
 ·rw[bI<|Ne.symm hL];exact I.free
 ·rw[bI<|hc x c e];exact I.freeC x c e
 ·obtain⟨e,n,r⟩:=I.pin p hp';exact⟨e,by rw[bI<|hp p hp'];exact n,r⟩
noncomputable def aMY:HO->Prop
 |.lst _=>True
 |.tup _=>True
 |.dK _=>True
 |.frz _ (.lst _)=>True
 |.frz _ (.dK _)=>True
 |.ext _=>True
 |_=>False
def Smp(H:Hp):Prop:=∀b o,H b=some o->aMY o
theorem ObjOk.smp{h:BI}{a:BG}{o:HO}(z:aMY o)(x:ObjOk P w H h a o):ObjOk P w F h a o:=by
 cases o with
 |lst xs=>exact x
 |tup xs=>exact x
 |dK kvs=>exact x
 |frz ob u=>cases u with
  |lst xs=>exact x
  |dK kvs=>exact x
  |_=>exact absurd z λq=>q
 |ext φ=>exact x
 |_=>exact absurd z λq=>q
theorem Smp.sub(h:Smp H)(s:Same F H):Smp F:=λb o e=>h b o<|s b o e
theorem Inv.less(I:Inv X pins σ H s)(hF:Same F H)(h0:Same X.B₀ F)(hs:Smp F):Inv X pins σ F s:=by
 refine⟨I.ok,I.os,I.bare,⟨I.base.keep,I.base.slot,λb u e n hx=>hF.free<|I.base.free b u e n hx,I.base.there,λb xs e=>h0 _ _<|X.hB _ _ e trivial,λb u xs e=>h0 _ _<|X.hB _ _ e trivial,λb ps e=>⟨#[], ?_⟩⟩,I.loc,I.cell,hF.free I.free,λx c e=>hF.free<|I.freeC x c e,λp hp=> ?_,λb o e=>(I.hok b o<|hF b o e).smp<|hs b o e,I.len⟩
 ·have q:=h0 _ _<|X.hB _ _ e trivial;rw[q];simp
 ·obtain⟨e,n,r⟩:=I.pin p hp;exact⟨e,hF.free n,r⟩
noncomputable def clo(cells:List (Str×BG)):List (Str×NameKind)->List (Str×BG)->List (Str×BG)
 |[],cs=>cs
 |(n,k)::r,cs=>clo cells r (if(k==NameKind.free)=true then(n,(cells.lookup n).getD 0)::cs else cs)
theorem pU{env:Env}:∀ (names:List (Str×NameKind)) (cs:List (Str×BG)),(∀y∈names,y.2=.free->∃c,env.cells.lookup y.1=some c)->
  (forIn names cs (λ(x:Str×NameKind) (r:List (Str×BG))=>if(x.2==NameKind.free)=true then(do let c <-cellOf env x.1;pure (ForInStep.yield ((x.1,c)::r))) else pure (ForInStep.yield r)):Sem (List<|Str×BG))=pure (clo env.cells names cs)
 |[],cs,_=>rfl
 |(n,k)::r,cs,h=>by
  rw[List.forIn_cons]
  by_cases hk:(k==NameKind.free)=true
  ·obtain⟨c,hc⟩:=h (n,k) aG (by simpa using hk)
   have e:cellOf env n=pure c:=by unfold cellOf;have hc':env.cells.lookup n=some c:=hc;rw[hc']
   simp only[hk,if_true,e,pure_bind,clo];have hc':env.cells.lookup n=some c:=hc;rw[hc'];exact pU r _ λy hy=>h y<|aF _ hy
  ·simp only[hk,bY,if_false,pure_bind,clo];exact pU r _ λy hy=>h y<|aF _ hy
theorem vE{env:Env}{scope:Scope}(h:∀y∈scope.names,y.2=.free->∃c,env.cells.lookup y.1=some c):closureFor scope env=pure (clo env.cells scope.names []):=by simp only[closureFor];have e:=pU (env:=env) scope.names [] h;simp only[bind_pure] ;exact e
theorem aAV(cells:List (Str×BG)):∀ (names:List (Str×NameKind)) (cs:List (Str×BG)) (x:Str) (c:BG),(clo cells names cs).lookup x=some c->cs.lookup x=some c\/((x,NameKind.free)∈names/\c=(cells.lookup x).getD 0)
 |[],cs,x,c,h=>.inl h
 |(n,k)::r,cs,x,c,h=>by
  rcases aAV cells r _ x c h with q|⟨q1,q2⟩
  ·by_cases hk:(k==NameKind.free)=true
   ·rw[if_pos hk,eG] at q;have ek:k=.free:=by simpa using hk
    by_cases hx:(x==n)=true
    ·simp only[hx] at q;have e:x=n:=by simpa using hx
     subst e;exact .inr ⟨by rw[ek];exact aG,(bS.inj q).symm⟩
    ·have hx':(x==n)=false:=by simpa using hx
     simp only[hx'] at q;exact .inl q
   ·rw[if_neg hk] at q;exact .inl q
  ·exact .inr ⟨aF _ q1,q2⟩
theorem aDq(cells:List (Str×BG)):∀ (names:List (Str×NameKind)) (cs:List (Str×BG)) (x:Str),(x,NameKind.free)∈names\/(∃c,cs.lookup x=some c)->∃c,(clo cells names cs).lookup x=some c
 |[],cs,x,h=>h.elim (λz=>nomatch z) λz=>z
 |(n,k)::r,cs,x,h=>by
  refine aDq cells r _ x ?_
  by_cases hk:(k==NameKind.free)=true
  ·rw[if_pos hk]
   by_cases hx:(x==n)=true
   ·exact .inr ⟨(cells.lookup n).getD 0,by rw[eG];simp only[hx]⟩
   ·have hx':(x==n)=false:=by simpa using hx
    rcases h with q|⟨c,q⟩
    ·rcases aU.mp q with z|z
     ·cases z;exact absurd (by simp) hx
     ·exact .inl z
    ·exact .inr ⟨c,by rw[eG];simp only[hx'];exact q⟩
  ·rw[if_neg hk]
   rcases h with q|q
   ·rcases aU.mp q with z|z
    ·cases z;exact absurd rfl hk
    ·exact .inl z
   ·exact .inr q
theorem qO{env:Env}:∀ {names:List (Str × NameKind)} {x:Str},((names.map fun (n,k)=>if (k==NameKind.free && env.scope.kind== .function && env.kindOf n==some .cell) then (n,NameKind.cell) else (n,k)).lookup x=some .cell∨
   (names.map λ(n,k)=>if(k==NameKind.free&&env.scope.kind==.function&&env.kindOf n==some .cell) then(n,NameKind.cell) else(n,k)).lookup x=some .free)->names.lookup x=some .cell\/names.lookup x=some .free
 |[],x,h=>by simp at h
 |(n,k)::r,x,h=>by
  have ih:= @qO env r x;rw[bA] at h;rw[eG]
  by_cases hc:(k==NameKind.free&&env.scope.kind==.function&&env.kindOf n==some .cell)=true
  ·simp only[hc,if_true,eG] at h;cases hx:x==n with
   |true=>
    have hk:k=.free:=by have:=hc;simp only[bC,beq_iff_eq] at this;exact this.1.1
    exact .inr (by rw[hk])
   |false=>simp only[hx] at h ⊢;exact ih h
  ·have hc':(k==NameKind.free&&env.scope.kind==.function&&env.kindOf n==some .cell)=false:=by simpa using hc
   simp only[hc',bY,if_false,eG] at h;cases hx:x==n with
   |true=>simp only[hx] at h ⊢;exact h
   |false=>simp only[hx] at h ⊢;exact ih h
theorem aEi{prog:AF}{A:BH}{R:Result->BF->Prop}{elt target:Expr}{ifs:List Expr}{scope:Scope}{pos:Pos}{it acc:BE}{env:Env}(Ξ:BE->BF->Prop)(hΞ:∀e s,Ξ e s->notedBy (AH prog w) A env (λe s'=>R (.error e) s') e s)(J:Nat->BF->Prop)
  (turn:∀n s,J n s→AK (AH prog w) A (pyNext it) (fun r s₁=>match r with
   |none=>R (.ok .next) s₁
   | some v=>AK (AH prog w) A (letOwnedTupleGo target it v) (fun _ s₂=>AK (AH prog w) A (assign target env v) (fun _ s₃=>
     AK (AH prog w) A (forIn ifs true fun c r=>if r=true then do let ok ← isTrue c env (eval c env); pure (ForInStep.yield ok) else pure (ForInStep.yield r)) (fun ok s₄=>
      if ok=true then AK (AH prog w) A (eval elt env) (λx s₅=>AK (AH prog w) A (call (.builtin "list.append") [acc,x]) (λ_ s₆=>∃m,m<n/\J m s₆) Ξ s₅) Ξ s₄
      else ∃m,m<n/\J m s₄) Ξ s₃) Ξ s₂) Ξ s₁) Ξ s)
  (n:Nat) (h:J n s):codeAny (AH prog w) A (.compLoop (.ListComp elt [⟨target,iter,ifs,0⟩] scope pos) 0 it acc env) R s:=by
 refine codeAny_loop rfl J (λn s hI=> ?_) n h;show AK _ A ((compTurn (.ListComp elt [⟨target,iter,ifs,0⟩] scope pos) 0 it acc env).onRaise λx=>do noteFrame x env;theTreesLotGoes x) _ _ s;refine wpAny_noted ?_;rw[compTurn_list];refine AA<|wpAny_standAt (AA<|AY (turn n s hI) (λr s₁ h₁=> ?_) λe s z=>hΞ e s z);cases r with
 |none=>exact AB h₁
 |some v=>
  refine AA<|AY h₁ (λ_ s₂ h₂=> ?_) λe s z=>hΞ e s z;refine AA<|AY h₂ (λ_ s₃ h₃=> ?_) λe s z=>hΞ e s z;refine AA<|AY h₃ (λok s₄ h₄=> ?_) λe s z=>hΞ e s z;cases ok with
  |false=>exact AB ⟨rfl,h₄⟩
  |true=>exact AA (AA<|AY h₄ (λx s₅ h₅=>AA<|AY h₅ (λ_ s₆ h₆=>AB<|AB ⟨rfl,h₆⟩) λe s z=>hΞ e s z) λe s z=>hΞ e s z)
noncomputable def aNg(X:Cx)(ifs:List Expr):TT:=λσ H Q=>∀ (pins:List (BG×BJ)) (s:BF),Inv X pins σ H s->
 AK (AH X.prog X.w) X.A (forIn ifs true λc r=>if r=true then do let ok <-isTrue c X.env (eval c X.env);pure (ForInStep.yield ok) else pure (ForInStep.yield r)) (TP X pins σ Q) X.xe s
theorem aBm{Q:Bool->Hp->Prop}(h:Q true H):aNg X [] σ H Q:=λ_ _ I=>wpAny_tests_nil ⟨H,I,h⟩
theorem aBg{c:Expr}{Q:Bool->Hp->Prop}(h:wT X c σ H Q):aNg X [c] σ H Q:=λpins s I=>wpAny_tests_one<|h pins s I
noncomputable def cxB(X:Cx)(N:List Str)(scope:Scope)(cl:List (Str×BG))(C:BG)(ex:List BG)(s:BF)(H:Hp):Cx:=
 {prog:=X.prog,w:=X.w,K:=X.K,mg:=X.mg,base:=X.base,A:=X.A,N:=N,s₀:=s,H₀:=H,env:=compEnvC scope cl C X.env,outer:=X.stack,stack:=X.stack,ex:=ex,fn:=λ_=>false,calm:=true,pn:=[],xe:=λ_ _=>False}
noncomputable def pM(X:Cx)(N:List Str)(scope:Scope)(cl:List (Str×BG))(C:BG)(ex:List BG)(s:BF)(H:Hp)(ξ:BE->BF->Prop):Cx:={cxB X N scope cl C ex s H with xe:=ξ}
noncomputable def vD(cap:List (Option Nat))(σ:St):St:=cap.map λo=>o.bind λk=>(σ[k]?).join
noncomputable def mE(scope sc:Scope):Bool:=scope.names.all λy=>(!(y.2==NameKind.free)||sc.names.lookup y.1==some NameKind.cell)&&!(y.2==NameKind.cell)&&(!(y.2==NameKind.local)||scope.names.lookup y.1==some NameKind.local)
noncomputable def lF(N M:List Str)(scope sc:Scope)(cap:List (Option Nat)):Bool:=cap.length==N.length&&(cap.zip N).all λy=>match y.1 with
 |none=>true
 |some k=>M[k]? ==some y.2&&sc.names.lookup y.2==some NameKind.cell&&scope.names.lookup y.2==some NameKind.free
theorem iV{env:Env}(hf:env.scope.kind=.function):∀ {names:List (Str×NameKind)}{x:Str},names.lookup x=some .free->env.kindOf x=some .cell->
  (names.map λ(n,k)=>if(k==NameKind.free&&env.scope.kind==.function&&env.kindOf n==some .cell) then(n,NameKind.cell) else(n,k)).lookup x=some .cell
 |[],x,h,_=>by simp at h
 |(n,k)::r,x,h,hc=>by
  rw[bA];cases hx:x==n with
  |true=>
   have e:x=n:=by simpa using hx
   subst e;rw[eG] at h;simp only[beq_self_eq_true] at h;have ek:k=.free:=bS.inj h;subst ek;have hb:(NameKind.free==NameKind.free&&env.scope.kind==.function&&env.kindOf x==some .cell)=true:=by rw[hf,hc];rfl
   show List.lookup x ((if(NameKind.free==NameKind.free&&env.scope.kind==.function&&env.kindOf x==some .cell)=true then(x,NameKind.cell) else(x,NameKind.free))::_)=_;rw[if_pos hb,eG];simp only[beq_self_eq_true]
  |false=>
   rw[eG] at h;simp only[hx] at h;have ih:=iV hf (names:=r) h hc
   by_cases hb:(k==NameKind.free&&env.scope.kind==.function&&env.kindOf n==some .cell)=true
   ·simp only[hb,if_true,eG,hx];exact ih
   ·have hb':(k==NameKind.free&&env.scope.kind==.function&&env.kindOf n==some .cell)=false:=by simpa using hb
    simp only[hb',bY,if_false,eG,hx];exact ih
theorem Inv.low(I:Inv X pins σ H s):∀b∈frs X.stack,b<s.heap.objs.size:=λb hb=>by obtain⟨_,o,ho,_⟩:=I.stack.mem hb;exact aR ho
theorem aDS{elt:Expr}{ifs:List Expr}{scope:Scope}{pos:Pos}{N:List Str}{cap:List (Option Nat)}{g:TG}{tt:TT}{te:TE}{J:It}{fp:List BG}{it:BG}{tn:Nat->BI->Prop}{E:BE->BF->Prop}{sc:Scope}(ξ:List (Str×BG)->BG->BE->BF->Prop)(ξ':List (Str×BG)->BG->BE->Hp->BF->Prop)
  (hc:X.calm=true) (hsc:X.env.scope=sc) (hcn:mE scope sc=true) (hcap:lF N X.N scope sc cap=true) (hk:scope.kind=.function)
  (I:Inv X pins σ H s) (T:aGE X.prog X.w X.K tg J fp it tn) (st:tn 0 s.heap) (hfp:∀b∈fp,wN X pins H b)
  (hg:∀cl C,PG (pM X N scope cl C fp s H<|ξ cl C) tg g) (ht:∀cl C pi s2 σ2 H2 Q,Inv (pM X N scope cl C fp s H<|ξ cl C) pi σ2 H2 s2->tt σ2 H2 Q->AK (AH X.prog X.w) X.A (forIn ifs true λc r=>if r=true then do let ok <-isTrue c (compEnvC scope cl C X.env) (eval c<|compEnvC scope cl C X.env);pure (ForInStep.yield ok) else pure (ForInStep.yield r)) (TP (pM X N scope cl C fp s H<|ξ cl C) pi σ2 Q) (ξ cl C) s2)
  (he:∀cl C,PE (pM X N scope cl C fp s H<|ξ cl C) elt te) (W:Nat->Nat->List V->St->Hp->Prop) (m0:Nat) (w0:W 0 m0 [] (vD cap σ) H)
  (RR:BE->BG->Result->BF->Prop)
  (hξ:∀cl C e s',ξ cl C e s'->∃pi σb H',Inv (pM X N scope cl C fp s H<|ξ cl C) pi σb H' s'/\ξ' cl C e H' s')
  (hx:∀cl D C e H' s',ξ' cl C e H' s'->H' C=none->X.s₀.heap.objs.size<=C->C≠X.env.locals->(∀x c,X.env.cells.lookup x=some c->c≠C)->(∀p∈X.pn++pins,p.1≠C)->C∉frs X.stack->(∃m,s'.heap.Ns C m)->Inv X pins σ H' s'->notedBy (AH X.prog X.w) X.A (compEnvC scope cl C X.env) (λe s''=>RR (.ref D) C (.error e) s'') e s')
  (turn:∀i m ys σb H2,W i m ys σb H2→
   (J.stop i H2/\∀D C s',H2 D=none->H2 C=none->D≠C->X.s₀.heap.objs.size<=C->C≠X.env.locals->(∀x c,X.env.cells.lookup x=some c->c≠C)->(∀p∈X.pn++pins,p.1≠C)->C∉frs X.stack->(∃m,s'.heap.Ns C m)->Inv X pins σ (upd H2 D<|.lst ys) s'->RR (.ref D) C (.ok .next) s')\/
   (J.go i H2∧ys.length<AL∧∃Nx:List V→St→Hp→Prop,(∀ys' σ' H',Nx ys' σ' H'→∃m',m'<m∧W (i+1) m' ys' σ' H')∧
    ∀x H',J.yld i H2 x H'->g x σb H' λσ2 H3=>tt σ2 H3 λb H4=>if b=true then te σ2 H4 λv H5=>Nx (ys++[v]) σ2 H5 else Nx ys σ2 H4)):
  AK (AH X.prog X.w) X.A (newList []) (fun acc s₃=>AK (AH X.prog X.w) X.A (newFunctionEnv scope X.env.globals (clo X.env.cells scope.names []) [] X.env.qual none .none (some X.env)) (fun cenv s₄=>
   codeAny (AH X.prog X.w) X.A (.compStart (.ListComp elt [⟨tg,iter,ifs,0⟩] scope pos) 0 (.ref it) acc {cenv with scope:=relabel scope X.env}) (RR acc cenv.locals) s₄) E s₃) E s:=by
 have nm:∀y∈scope.names,(y.2=NameKind.free->sc.names.lookup y.1=some NameKind.cell)/\y.2≠NameKind.cell/\(y.2=NameKind.local->scope.names.lookup y.1=some NameKind.local):=λy hy=>by have q:=cR.mp hcn y hy;simp only[bC,oU,mH,beq_eq_false_iff_ne,ne_eq,beq_iff_eq] at q;exact⟨λe=>q.1.1.resolve_left λz=>z e,q.1.2,λe=>q.2.resolve_left λz=>z e⟩
 have fre:∀y∈scope.names,y.2=.free->∃c,X.env.cells.lookup y.1=some c:=λy hy e=>I.ok.has y.1 (.inl<|by show X.env.scope.names.lookup y.1=_;rw[hsc];exact(nm y hy).1 e)
 generalize hcl:clo X.env.cells scope.names []=cl
 have csub:∀x c,cl.lookup x=some c->X.env.cells.lookup x=some c:=λx c e=>by
  rw[<-hcl] at e
  rcases aAV _ _ _ _ _ e with z|⟨z1,z2⟩
  ·simp at z
  ·obtain⟨c',q⟩:=fre _ z1 rfl;rw[q] at z2;rw[q,z2];rfl
 have chas:∀x,((relabel scope X.env).names.lookup x=some .cell\/(relabel scope X.env).names.lookup x=some .free)->∃c,cl.lookup x=some c:=λx e=>by
  rcases qO e with z|z
  ·exact absurd rfl (nm _<|PySem.mem_of_lookup z).2.1
  ·rw[<-hcl];exact aDq _ _ _ _ (.inl<|PySem.mem_of_lookup z)
 have cexi:∀x c,cl.lookup x=some c->c<s.heap.objs.size:=λx c e=>by obtain⟨v,o,ho,_⟩:=I.cell x c<|csub x c e;exact aR ho
 have cexX:∀x c,X.env.cells.lookup x=some c->c<s.heap.objs.size:=λx c e=>by obtain⟨v,o,ho,_⟩:=I.cell x c e;exact aR ho
 have pexX:∀p∈X.pn++pins,p.1<s.heap.objs.size:=λp hp=>aR (I.pin p hp).1
 have flow:∀b∈fp,b<s.heap.objs.size:=λb hb=>by obtain⟨o,ho,_⟩:=T.obj 0 _ st b hb;exact aR ho
 have fstk:∀b∈fp,b∉frs X.stack:=λb hb z=>by
  obtain⟨_,f1,f2,_⟩:=hfp b hb
  rcases aU.mp (I.stkSub b z) with q|q
  ·exact f1 q
  ·exact f2 q
 have hkr:(relabel scope X.env).kind=.function:=hk;refine AV<|wpAny_newFunctionEnv (λy hy=>(nm y hy).2.1) (by intro y hy;simp at hy) (λh₁ hns₁ hsb₁=> ?_) hk;dsimp only at hns₁ hsb₁ ⊢;generalize hH2:s.heap.push {cls:=.type "list",dict:=none,data:=.seq ([]:List BE).toArray}=G2 at hns₁ hsb₁ ⊢;have hC:G2.objs.size=s.heap.objs.size+1:=by rw[<-hH2,yR]
 have hDC:s.heap.objs.size≠G2.objs.size:=by rw[hC];exact bN<|kO _
 have hCle:s.heap.objs.size<=G2.objs.size:=by rw[hC];exact iX _
 have neC:∀b,b<s.heap.objs.size->b≠G2.objs.size:=λb hb=>by rw[hC];exact bN<|mK hb
 have old:∀b o,s.heap.get? b=some o->h₁.get? b=some o:=λb o e=>hsb₁.extBut b o (neC b<|aR e) (aJ _<|hH2▸aJ _ e)
 have hacc:h₁.get? s.heap.objs.size=some {cls:=.type "list",dict:=none,data:=.seq ([]:List BE).toArray}:=hsb₁.extBut _ _ hDC (aJ _<|hH2▸bK _ rfl);have env_eq:({newEnv scope G2.objs.size X.env.globals cl X.env.qual none .none (some X.env) 0 with scope:=relabel scope X.env}:Env)=compEnvC scope cl G2.objs.size X.env:=rfl;generalize hDD:s.heap.objs.size=D at *;generalize hCC:G2.objs.size=C at *
 have okX:(pM X N scope cl C fp s H<|ξ cl C).Ok:=by
  refine⟨I.mod,hkr,I.ok.glob,I.ok.blt, ?_,λx y c a b=>I.ok.inj x y c (csub x c a)<|csub y c b,chas,(λx c z=>nomatch z),λ_=>I.ok.hd hc,I.ok.frames,.inl rfl,λb hb=>⟨neC b<|flow b hb,λx c e=>(hfp b hb).2.2.2.2.1 x c<|csub x c e⟩,I.bs, ?_,λb o e hb=> ?_,fstk,I.stack,I.stkFree⟩
  ·show s.heap.objs.size<=C;rw[hDD];exact hCle
  ·exact cG I.ok.bsz I.sz
  ·rcases(hfp b hb).2.2.2.1 with z|z
   ·exact I.ok.noex b o e z
   ·exact absurd (aV (aR e)<|cG I.ok.bsz z)<|eD _
 have capE:∀ (i:Nat) (x:Str) (v:V),N[i]? =some x->(vD cap σ)[i]? =some (some v)->∃k:Nat,X.N[k]? =some x/\σ[k]? =some (some v)/\sc.names.lookup x=some .cell/\scope.names.lookup x=some .free:=λi x v e1 e2=>by
  unfold lF at hcap;rw[bC] at hcap;unfold vD at e2;rw[aS] at e2;cases q:cap[i]? with
  |none=>rw[q] at e2;cases e2
  |some o=>
   rw[q] at e2;have e2:(o.bind λk=>(σ[k]?).join)=some v:=bS.inj e2;cases o with
   |none=>cases e2
   |some k=>
    have e2:(σ[k]?).join=some v:=e2
    have mz:(some k,x)∈cap.zip N:=by refine aK (i:=i) ?_;rw[lX];exact⟨q,e1⟩
    have z:=cR.mp hcap.2 _ mz;simp only[bC,beq_iff_eq] at z;refine⟨k,z.1.1, ?_,z.1.2,z.2⟩;cases w:σ[k]? with
    |none=>rw[w] at e2;cases e2
    |some o'=>rw[w] at e2;have e2:o'=some v:=e2;rw[e2]
 have I0:Inv (pM X N scope cl C fp s H<|ξ cl C) [(D,{cls:=.type "list",dict:=none,data:=.seq ([]:List BE).toArray})] (vD cap σ) H {s with heap:=h₁,toks:=s.toks+([]:List (Str×BE)).length}:=by
  have dfree:H D=none:=I.hok.fresh<|aEY hDD;refine⟨okX,rfl,I.bare,Un.kept old,⟨_,hns₁,λi x v e1 e2 e3=> ?_⟩,λx c e=> ?_,I.hok.fresh (by rw[hDD];exact hCle),λx c e=>I.freeC x c<|csub x c e,λp hp=> ?_,I.hok.kept old, ?_⟩
  ·obtain⟨k,q1,q2,q3,q4⟩:=capE i x v e1 e2;have q3':X.env.scope.names.lookup x=some .cell:=by rw[hsc];exact q3
   obtain⟨m,_,hl⟩:=I.loc;obtain⟨u,ru,lk⟩:=hl k x v q1 q2 (.inr<|.inl q3');refine⟨u,ru,.inr ⟨.inl<|iV I.ok.kind q4 q3', ?_⟩⟩
   rcases lk with⟨z,_⟩|⟨_,c,z,ic⟩
   ·have z':X.env.scope.names.lookup x=some .local:=z;rw[q3'] at z';cases z'
   ·obtain⟨c',hc'⟩:=chas x (.inl<|iV I.ok.kind q4 q3');have:=csub x c' hc';rw[z] at this;have ec:c=c':=bS.inj this;subst ec;obtain⟨o,ho,hd⟩:=ic;exact⟨c,hc',o,old c o ho,hd⟩
  ·obtain⟨v,o,ho,hd⟩:=I.cell x c<|csub x c e;exact⟨v,o,old c o ho,hd⟩
  ·have hp':p=(D,{cls:=.type "list",dict:=none,data:=.seq ([]:List BE).toArray}):=by simpa[pM,cxB] using hp
   subst hp';refine⟨hacc,dfree,hDC,λz=> ?_,λv z=>by cases z⟩;have:=I.low D z;rw[hDD] at this;exact eD _ this
  ·show(vD cap σ).length=N.length;unfold lF at hcap;rw[bC] at hcap;unfold vD;rw[aA];simpa using hcap.1
 have dlow:∀b,b<D->b≠D:=λb hb=>bN hb
 have loop:∀s₃:BF,s₃={s with heap:=h₁,toks:=s.toks+([]:List (Str×BE)).length}->
   codeAny (AH X.prog X.w) X.A (.compLoop (.ListComp elt [⟨tg,iter,ifs,0⟩] scope pos) 0 (.ref it) (.ref D)<|compEnvC scope cl C X.env) (RR (.ref D) C) s₃:=by
  rintro s₃ rfl
  refine aEi (ξ cl C) (λe s' z=> ?_) (λn s'=>∃ (i:Nat) (ys:List V) (σb:St) (H2:Hp) (its:List BE) (nn:Nat),Inv (pM X N scope cl C fp s H<|ξ cl C) [(D,{cls:=.type "list",dict:=none,data:=.seq its.toArray nn})] σb H2 s'/\tn i s'.heap/\(∀b∈fp,H2 b=none)/\Vals ys its/\ys.length<=AL/\W i n ys σb H2) ?_ m0
   ⟨0,[],vD cap σ,H,[],0,I0,T.keep 0 _ _ st λb hb o e=>old b o e,λb hb=>(hfp b hb).1,.nil,bP _,w0⟩
  ·obtain⟨pi,σb,H',I',z'⟩:=hξ cl C e s' z;obtain⟨m4,ns4,_⟩:=id I'.loc;have J0:Inv X pins σ H' s':=I.call' (ch:=fp) I'.os I'.base I'.hok I'.bare λb hb=>⟨(hfp b hb).2.2.2.1,(hfp b hb).2.1,(hfp b hb).2.2.2.2.1,(hfp b hb).2.2.2.2.2⟩
   have hLD:X.env.locals<D:=by rw[<-hDD];exact I.lt
   exact hx cl D C e H' s' z' I'.free (cG I.sz<|by rw[hDD];exact hCle) (jW<|aV hLD hCle) (λx c e=>neC c<|cexX x c e) (λp hp=>neC _<|pexX p hp) (λz=>absurd (I.low C z)<|by rw[hDD];exact oQ.mpr hCle) ⟨m4,ns4⟩ J0
  rintro n s3 ⟨i,ys,σ3,H3,its,nn,I3,st3,fr3,rv3,hlen,w3⟩
  have fpX:∀ {H':Hp}{its':List BE}{nn':Nat},(∀b∈fp,H' b=none)->∀b∈fp,wN (pM X N scope cl C fp s H<|ξ cl C) [(D,{cls:=.type "list",dict:=none,data:=.seq its'.toArray nn'})] H' b:=λ{H' its' nn'} hn b hb=>by
   refine⟨hn b hb,neC b<|flow b hb,fstk b hb,.inl hb,λx c e=>(hfp b hb).2.2.2.2.1 x c<|csub x c e,λp hp=> ?_⟩
   have hp':p.1=D:=by have q:p∈([]:List (BG×BJ))++[(D,{cls:=.type "list",dict:=none,data:=.seq its'.toArray nn'})]:=hp;rw[xH,aE] at q;rw[q]
   rw[hp'];exact Ne.symm (dlow b<|flow b hb)
  rcases turn i n ys σ3 H3 w3 with⟨stop,fin⟩|⟨go,hsz,Nx,hN,step⟩
  ·refine thn (T.done (pM X N scope cl C fp s H<|ξ cl C) rfl rfl rfl rfl i _ s3 σ3 H3 (ξ cl C) I3 (fpX fr3) st3 stop) λr s4 ⟨hr,I4⟩=> ?_
   subst hr;obtain⟨m4,ns4,_⟩:=id I4.loc;have J0:Inv X pins σ H3 s4:=I.call' (ch:=fp) I4.os I4.base I4.hok I4.bare λb hb=>⟨(hfp b hb).2.2.2.1,(hfp b hb).2.1,(hfp b hb).2.2.2.2.1,(hfp b hb).2.2.2.2.2⟩
   obtain⟨pd,pn,_⟩:=I4.pin (D,_)<|aI _ aG;have hLD:X.env.locals<D:=by rw[<-hDD];exact I.lt
   refine fin D C s4 pn I4.free hDC (cG I.sz<|by rw[hDD];exact hCle) (jW<|aV hLD hCle) (λx c e=>neC c<|cexX x c e) (λp hp=>neC _<|pexX p hp) (λz=>absurd (I.low C z)<|by rw[hDD];exact oQ.mpr hCle) ⟨m4,ns4⟩ ?_;refine J0.track pn (by rw[<-hDD];exact I.sz) (jW hLD) (λx c e=>dlow c<|cexX x c e) (λp hp=>dlow _<|pexX p hp) ?_;exact⟨hlen,its,nn,rv3,pd⟩
  ·refine thn (T.item (pM X N scope cl C fp s H<|ξ cl C) rfl rfl rfl rfl i _ s3 σ3 H3 (ξ cl C) I3 (fpX fr3) st3 go) λr s4 ⟨u,hr,h4⟩=> ?_
   subst hr;refine thn h4 λ_ s5 ⟨x,H5,I5,r5,y5,st5,fr5⟩=> ?_
   have I5':=I5.pinned (fpX fr5)<|T.obj _ _ st5;refine thn (hg cl C _ s5 σ3 H5 x u _ I5' r5<|step x H5 y5) λ_ s6 ⟨σ6,H6,I6,q6⟩=> ?_
   refine thn (ht cl C _ s6 σ6 H6 _ I6 q6) λb s7 ⟨H7,I7,q7⟩=> ?_
   have tnK:∀ {σ7:St}{H7:Hp}{s7:BF},Inv (pM X N scope cl C fp s H<|ξ cl C) ([(D,{cls:=.type "list",dict:=none,data:=.seq its.toArray nn})]++mZ fp s5.heap) σ7 H7 s7->tn (i+1) s7.heap/\∀b∈fp,H7 b=none:=λ{σ7 H7 s7} I7=>by refine⟨T.keep _ _ _ st5 λb hb o e=>(I7.pin (b,o)<|aI _ (aI _<|jC hb e)).1,λb hb=> ?_⟩;obtain⟨o,e,d⟩:=T.obj _ _ st5 b hb;exact(I7.pin (b,o)<|aI _ (aI _<|jC hb e)).2.1
   cases b with
   |false=>have q7':Nx ys σ6 H7:=q7;obtain⟨m',hm,w7⟩:=hN _ _ _ q7';obtain⟨t7,f7⟩:=tnK I7;exact⟨m',hm,i+1,ys,σ6,H7,its,nn,I7.unpinned,t7,f7,rv3,hlen,w7⟩
   |true=>
    have q7':te σ6 H7 λv H5=>Nx (ys++[v]) σ6 H5:=q7
    refine thn (he cl C _ s7 σ6 H7 _ I7 q7') λy s8 ⟨v,H8,I8,r8,q8⟩=> ?_
    obtain⟨m',hm,w8⟩:=hN _ _ _ q8;obtain⟨pd,pn,pL,pf,pc⟩:=I8.pin (D,{cls:=.type "list",dict:=none,data:=.seq its.toArray nn}) (aI _<|aZ _ aG);have hits:its.length=ys.length:=rv3.length.symm;refine wpAny_list_append_plain (items:=its.toArray) ⟨nn,pd⟩ (λh9 pl9 sb9=> ?_) (by rw[aY,hits];exact dN hsz);obtain⟨n9,e9⟩:=pl9
    have e9':h9.get? D=some {cls:=.type "list",dict:=none,data:=.seq (its++[y]).toArray n9}:=by rw[e9];simp
    have I8':Inv (pM X N scope cl C fp s H<|ξ cl C) (mZ fp s5.heap) σ6 H8 s8:=I8.pins_of λp hp=>I8.pin p (aI _<|aI _ hp)
    have I9:Inv (pM X N scope cl C fp s H<|ξ cl C) (mZ fp s5.heap) σ6 H8 {s8 with heap:=h9,toks:=s8.toks}:=I8'.turned (it:=D) (λb o hb e=>sb9.extBut b o hb e) pn hDC (.inr<|by rw[<-hDD];exact aP _) (λx c e=>dlow c<|cexi x c e) λp hp=>by
     have hp':p∈mZ fp s5.heap:=by simpa[pM,cxB] using hp
     exact dlow _<|flow _ (sI hp').1
    have tn9:tn (i+1) h9:=T.keep _ _ _ st5 λb hb o e=>(I9.pin (b,o) (aI _<|jC hb e)).1
    have fr9:∀b∈fp,H8 b=none:=λb hb=>by obtain⟨o,e,d⟩:=T.obj _ _ st5 b hb;exact(I9.pin (b,o) (aI _<|jC hb e)).2.1
    refine⟨m',hm,i+1,ys++[v],σ6,H8,its++[y],n9,I9.pins_of λp hp=> ?_,tn9,fr9,Vals.append rv3<|.cons r8 .nil,by rw[aN];exact hsz,w8⟩;have hp':p=(D,{cls:=.type "list",dict:=none,data:=.seq (its++[y]).toArray n9}):=aE.mp hp;subst hp';exact⟨e9',pn,pL,pf,λv z=>by cases z⟩
 exact codeAny_compStart_list (loop _ rfl) (T.self _ 0 _ _ _ (T.keep 0 _ _ st λb hb o e=>old b o e)<|loop _ rfl)
theorem aAZ{elt:Expr}{ifs:List Expr}{scope:Scope}{pos:Pos}{N:List Str}{cap:List (Option Nat)}{g:TG}{tt:TT}{te:TE}{J:It}{fp:List BG}{it:BG}{tn:Nat->BI->Prop}{E:BE->BF->Prop}{sc:Scope}
  (hc:X.calm=true) (hsc:X.env.scope=sc) (hcn:mE scope sc=true) (hcap:lF N X.N scope sc cap=true) (hk:scope.kind=.function)
  (I:Inv X pins σ H s) (T:aGE X.prog X.w X.K tg J fp it tn) (st:tn 0 s.heap) (hfp:∀b∈fp,wN X pins H b)
  (hg:∀cl C,PG (cxB X N scope cl C fp s H) tg g) (ht:∀cl C pi s2 σ2 H2 Q,Inv (cxB X N scope cl C fp s H) pi σ2 H2 s2->tt σ2 H2 Q->AK (AH X.prog X.w) X.A (forIn ifs true λc r=>if r=true then do let ok <-isTrue c (compEnvC scope cl C X.env) (eval c<|compEnvC scope cl C X.env);pure (ForInStep.yield ok) else pure (ForInStep.yield r)) (TP (cxB X N scope cl C fp s H) pi σ2 Q) (λ_ _=>False) s2)
  (he:∀cl C,PE (cxB X N scope cl C fp s H) elt te) (W:Nat->Nat->List V->St->Hp->Prop) (m0:Nat) (w0:W 0 m0 [] (vD cap σ) H)
  (RR:BE->BG->Result->BF->Prop)
  (turn:∀i m ys σb H2,W i m ys σb H2→
   (J.stop i H2/\∀D C s',H2 D=none->H2 C=none->D≠C->X.s₀.heap.objs.size<=C->C≠X.env.locals->(∀x c,X.env.cells.lookup x=some c->c≠C)->(∀p∈X.pn++pins,p.1≠C)->C∉frs X.stack->(∃m,s'.heap.Ns C m)->Inv X pins σ (upd H2 D<|.lst ys) s'->RR (.ref D) C (.ok .next) s')\/
   (J.go i H2∧ys.length<AL∧∃Nx:List V→St→Hp→Prop,(∀ys' σ' H',Nx ys' σ' H'→∃m',m'<m∧W (i+1) m' ys' σ' H')∧
    ∀x H',J.yld i H2 x H'->g x σb H' λσ2 H3=>tt σ2 H3 λb H4=>if b=true then te σ2 H4 λv H5=>Nx (ys++[v]) σ2 H5 else Nx ys σ2 H4)):
  AK (AH X.prog X.w) X.A (newList []) (fun acc s₃=>AK (AH X.prog X.w) X.A (newFunctionEnv scope X.env.globals (clo X.env.cells scope.names []) [] X.env.qual none .none (some X.env)) (fun cenv s₄=>
   codeAny (AH X.prog X.w) X.A (.compStart (.ListComp elt [⟨tg,iter,ifs,0⟩] scope pos) 0 (.ref it) acc {cenv with scope:=relabel scope X.env}) (RR acc cenv.locals) s₄) E s₃) E s:=
 aDS (λ_ _ _ _=>False) (λ_ _ _ _ _=>False) hc hsc hcn hcap hk I T st hfp hg ht he W m0 w0 RR (λ_ _ _ _ z=>z.elim) (λ_ _ _ _ _ _ z=>z.elim) turn
end L2
namespace DL
open PySem PySem.Spec PyProof.Rows L2
noncomputable abbrev St:=L2.St
inductive D where
 |non|bl (b:Bool)|int (i:Int)|str (x:Str)|tup (ds:List D)|lst (ds:List D)|dic|scr (ns:List Int)|dki (ks:List Key) (ds:List D)|any (G:V->Hp->Prop)
mutual
noncomputable def Rep(K:aB)(H:Hp):D->V->Prop
 |.non,v=>v=.non
 |.bl b,v=>v=.bl b
 |.int i,v=>v=.int i
 |.str x,v=>v=.str x
 |.tup ds,v=>∃a xs,v=.ref a/\H a=some (.tup xs)/\RepL K H ds xs
 |.lst ds,v=>∃a xs,v=.ref a/\H a=some (.lst xs)/\RepL K H ds xs
 |.dic,v=>∃a,v=.ref a/\H a=some (.dK [])
 |.dki ks ds,v=>∃a xs,v=.ref a/\(∃ob,H a=some (.frz ob (.dK<|ks.zip xs)))/\ks.length=ds.length/\RepL K H ds xs
 |.scr ns,v=>∃a,v=.ref a/\SqL K H a (ns.map V.int)
 |.any G,v=>(∃a,v=.ref a)/\∀H',Same H H'->G v H'
noncomputable def RepL(K:aB)(H:Hp):List D->List V->Prop
 |[],xs=>xs=[]
 |d::ds,xs=>∃y ys,xs=y::ys/\Rep K H d y/\RepL K H ds ys
end
mutual
theorem Rep.mono{K:aB}{H H':Hp}(h:Same H H'):∀ {d:D}{v:V},Rep K H d v->Rep K H' d v
 |.non,_,r=>by simpa only[Rep] using r
 |.bl _,_,r=>by simpa only[Rep] using r
 |.int _,_,r=>by simpa only[Rep] using r
 |.str _,_,r=>by simpa only[Rep] using r
 |.tup ds,v,r=>by simp only[Rep] at r ⊢;obtain⟨a,xs,e,q,rl⟩:=r;exact⟨a,xs,e,h _ _ q,RepL.mono h rl⟩
 |.lst ds,v,r=>by simp only[Rep] at r ⊢;obtain⟨a,xs,e,q,rl⟩:=r;exact⟨a,xs,e,h _ _ q,RepL.mono h rl⟩
 |.dki ks ds,v,r=>by simp only[Rep] at r ⊢;obtain⟨a,xs,e,⟨ob,q⟩,l,rl⟩:=r;exact⟨a,xs,e,⟨ob,h _ _ q⟩,l,RepL.mono h rl⟩
 |.dic,v,r=>by simp only[Rep] at r ⊢;obtain⟨a,e,q⟩:=r;exact⟨a,e,h _ _ q⟩
 |.any G,v,r=>by simp only[Rep] at r ⊢;exact⟨r.1,λH2 s=>r.2 H2<|h.trans s⟩
 |.scr ns,v,r=>by simp only[Rep] at r ⊢;obtain⟨a,e,q⟩:=r;exact⟨a,e,h.seq q⟩
theorem RepL.mono{K:aB}{H H':Hp}(h:Same H H'):∀ {ds:List D}{xs:List V},RepL K H ds xs->RepL K H' ds xs
 |[],_,r=>by simpa only[RepL] using r
 |d::ds,xs,r=>by simp only[RepL] at r ⊢;obtain⟨y,ys,e,q,rl⟩:=r;exact⟨y,ys,e,Rep.mono h q,RepL.mono h rl⟩
end
theorem RepL.len{K:aB}{H:Hp}:∀ {ds:List D}{xs:List V},RepL K H ds xs->xs.length=ds.length
 |[],_,r=>by simp only[RepL] at r;rw[r];rfl
 |d::ds,xs,r=>by simp only[RepL] at r;obtain⟨y,ys,rfl,_,q⟩:=r;simp only[bU,RepL.len q]
theorem RepL.get{K:aB}{H:Hp}:∀ {ds:List D}{xs:List V}{i:Nat}{d:D},RepL K H ds xs->ds[i]? =some d->∃v,xs[i]? =some v/\Rep K H d v
 |[],_,i,d,r,e=>by simp at e
 |d'::ds,xs,i,d,r,e=>by
  simp only[RepL] at r;obtain⟨y,ys,rfl,q,rl⟩:=r;cases i with
  |zero=>simp at e;subst e;exact⟨y,rfl,q⟩
  |succ i=>
   have e':ds[i]? =some d:=by simpa using e
   obtain⟨v,h1,h2⟩:=RepL.get rl e';exact⟨v,by simpa using h1,h2⟩
theorem RepL.app{K:aB}{H:Hp}:∀ {ds es:List D}{xs ys:List V},RepL K H ds xs->RepL K H es ys->RepL K H (ds++es) (xs++ys)
 |[],es,xs,ys,r,q=>by simp only[RepL] at r;subst r;exact q
 |d::ds,es,xs,ys,r,q=>by simp only[RepL] at r;obtain⟨y,zs,rfl,a,rl⟩:=r;show RepL K H (d::(ds++es)) (y::(zs++ys));simp only[RepL];exact⟨y,_,rfl,a,RepL.app rl q⟩
theorem RepL.nil{K:aB}{H:Hp}:RepL K H [] []:=by simp only[RepL]
theorem RepL.cons{K:aB}{H:Hp}{d:D}{ds:List D}{x:V}{xs:List V}(a:Rep K H d x)(b:RepL K H ds xs):RepL K H (d::ds) (x::xs):=by simp only[RepL];exact⟨x,xs,rfl,a,b⟩
theorem RepL.one{K:aB}{H:Hp}{d:D}{x:V}(a:Rep K H d x):RepL K H [d] [x]:=.cons a .nil
theorem RepL.uncons{K:aB}{H:Hp}{d:D}{ds:List D}{xs:List V}(r:RepL K H (d::ds) xs):∃y ys,xs=y::ys/\Rep K H d y/\RepL K H ds ys:=by simpa only[RepL] using r
theorem RepL.take{K:aB}{H:Hp}:∀ {ds:List D}{xs:List V} (n:Nat),RepL K H ds xs->RepL K H (ds.take n) (xs.take n)
 |_,_,0,_=>by simp only[yP];exact .nil
 |[],xs,n+1,r=>by simp only[RepL] at r;subst r;exact .nil
 |d::ds,xs,n+1,r=>by obtain⟨y,ys,rfl,a,rl⟩:=r.uncons;simp only[aFd];exact .cons a<|RepL.take n rl
theorem RepL.drop{K:aB}{H:Hp}:∀ {ds:List D}{xs:List V} (n:Nat),RepL K H ds xs->RepL K H (ds.drop n) (xs.drop n)
 |_,_,0,r=>by simpa only[List.drop_zero] using r
 |[],xs,n+1,r=>by simp only[RepL] at r;subst r;exact .nil
 |d::ds,xs,n+1,r=>by obtain⟨y,ys,rfl,a,rl⟩:=r.uncons;simp only[List.drop_succ_cons];exact RepL.drop n rl
theorem RepL.ints{K:aB}{H:Hp}:∀ {ns:List Int}{xs:List V},RepL K H (ns.map D.int) xs->xs=ns.map V.int
 |[],xs,r=>by simpa only[dL,RepL] using r
 |n::ns,xs,r=>by rw[bA] at r;obtain⟨y,ys,rfl,a,rl⟩:=r.uncons;simp only[Rep] at a;rw[a,RepL.ints rl];rfl
inductive Slot where
 |un|val (d:D)|own (l:BG) (ds:List D)|gh (d:D) (G:V->Hp->Prop)|od (l:BG) (ks:List Key) (ds:List D)|ox (ls:List BG) (G:V->Hp->Hp->Prop)
noncomputable def Wr(l:BG):HO->Prop
 |.lst _=>True
 |.dK _=>True
 |.ext φ=>∃o:BJ,φ=(λh=>h.get? l=some o)/\∀v,o.data≠ .cell v
 |_=>False
noncomputable def gQ(K:aB)(F H:Hp):Slot->Option V->Prop
 |.un,_=>True
 |.val d,o=>∃v,o=some v/\Rep K F d v
 |.own l ds,o=>o=some (.ref l)/\F l=none/\∃xs,H l=some (.lst xs)/\RepL K F ds xs
 |.od l ks ds,o=>o=some (.ref l)/\F l=none/\∃xs,H l=some (.dK<|ks.zip xs)/\ks.length=ds.length/\RepL K F ds xs
 |.gh d G,o=>∃v,o=some v/\Rep K F d v/\∀F',Same F F'->G v F'
 |.ox ls G,o=>∃v,o=some v/\(∀l∈ls,F l=none/\∃ob,H l=some ob/\Wr l ob)/\∀F' H',Same F F'->(∀l∈ls,∀ob,H l=some ob->H' l=some ob)->G v F' H'
noncomputable def SlotsOk(K:aB)(F H:Hp):List Slot->St->Prop
 |[],σ=>σ=[]
 |z::zs,σ=>∃o r,σ=o::r/\gQ K F H z o/\SlotsOk K F H zs r
noncomputable def gO:Slot->List BG
 |.own l _=>[l]
 |.od l _ _=>[l]
 |.ox ls _=>ls
 |_=>[]
noncomputable def cA(sd:List Slot):List BG:=sd.flatMap gO
theorem pY(z:Slot)(zs:List Slot):cA (z::zs)=gO z++cA zs:=rfl
structure StF(K:aB)(H₀ F H:Hp)(σ:St)(sd:List Slot):Prop where
 base:Same H₀ F
 sub:Same F H
 smp:Smp H
 slots:SlotsOk K F H sd σ
 nd:(cA sd).Nodup
variable {K:aB}{H₀ F F' H H':Hp}{σ:St}{sd:List Slot}
theorem SlotsOk.get:∀ {sd:List Slot}{σ:St}{i:Nat}{z:Slot},SlotsOk K F H sd σ->sd[i]? =some z->∃o,σ[i]? =some o/\gQ K F H z o
 |[],_,_,_,_,e=>by simp at e
 |z'::zs,σ,i,z,h,e=>by
  obtain⟨o,r,rfl,a,b⟩:=h;cases i with
  |zero=>simp at e;subst e;exact⟨o,rfl,a⟩
  |succ i=>obtain⟨o',h1,h2⟩:=SlotsOk.get (i:=i) b (by simpa using e);exact⟨o',by simpa using h1,h2⟩
theorem SlotsOk.set{z:Slot}{o:Option V}(q:gQ K F H z o):∀ {sd:List Slot}{σ:St} (i:Nat),SlotsOk K F H sd σ->SlotsOk K F H (sd.set i z) (σ.set i o)
 |[],_,_,h=>by have h:_=_:=h;subst h;rfl
 |z'::zs,σ,i,h=>by
  obtain⟨o',r,rfl,a,b⟩:=h;cases i with
  |zero=>exact⟨o,r,rfl,q,b⟩
  |succ i=>exact⟨o',_,rfl,a,SlotsOk.set q i b⟩
theorem SlotsOk.mono(hF:Same F F'):∀ {sd:List Slot}{σ:St},(∀l∈cA sd,F' l=none/\∀xs,H l=some xs->H' l=some xs)->SlotsOk K F H sd σ->SlotsOk K F' H' sd σ
 |[],_,_,h=>h
 |z::zs,σ,ho,h=>by
  obtain⟨o,r,rfl,a,b⟩:=h;refine⟨o,r,rfl, ?_,SlotsOk.mono hF (λl hl=>ho l ?_) b⟩
  ·cases z with
   |un=>trivial
   |val d=>obtain⟨v,e,q⟩:=a;exact⟨v,e,q.mono hF⟩
   |gh d G=>obtain⟨v,e,q,g⟩:=a;exact⟨v,e,q.mono hF,λF2 s2=>g F2<|hF.trans s2⟩
   |own l ds=>obtain⟨e,n,xs,q,rl⟩:=a;have:=ho l (by simp[pY,gO]);exact⟨e,this.1,xs,this.2 _ q,rl.mono hF⟩
   |od l ks ds=>obtain⟨e,n,xs,q,ln,rl⟩:=a;have:=ho l (by simp[pY,gO]);exact⟨e,this.1,xs,this.2 _ q,ln,rl.mono hF⟩
   |ox ls G=>
    obtain⟨v,e,h,g⟩:=a;have ho':∀l∈ls,F' l=none/\∀xs,H l=some xs->H' l=some xs:=λl hl=>ho l<|aZ _ hl
    exact⟨v,e,λl hl=>⟨(ho' l hl).1,let ⟨ob,q,w⟩:=(h l hl).2;⟨ob,(ho' l hl).2 _ q,w⟩⟩,λF2 H2 s2 k=>g F2 H2 (hF.trans s2) λl hl ob q=>k l hl ob<|(ho' l hl).2 _ q⟩
  ·exact aI _ hl
theorem SlotsOk.owns:∀ {sd:List Slot}{σ:St}{l:BG},SlotsOk K F H sd σ->l∈cA sd->F l=none/\∃ob,H l=some ob/\Wr l ob
 |[],_,_,_,e=>by simp[cA] at e
 |z::zs,σ,l,h,e=>by
  obtain⟨o,r,rfl,a,b⟩:=h
  rcases aM.mp (show l∈gO z++cA zs from e) with e|e
  ·cases z with
   |un=>cases e
   |val d=>cases e
   |gh d G=>cases e
   |own l' ds=>rw[aE.mp e];obtain⟨_,n,xs,q,_⟩:=a;exact⟨n,_,q,trivial⟩
   |od l' ks ds=>rw[aE.mp e];obtain⟨_,n,xs,q,_⟩:=a;exact⟨n,_,q,trivial⟩
   |ox ls G=>obtain⟨v,_,h,_⟩:=a;exact h l e
  ·exact SlotsOk.owns b e
theorem StF.lay{p:BG}{o:HO}(S:StF K H₀ F H σ sd)(hp:H p=none)(ho:aMY o):StF K H₀ (upd F p o) (upd H p o) σ sd/\Same F (upd F p o):=by
 have fp:F p=none:=S.sub.free hp;have s1:Same F (upd F p o):=λb u e=>by rw[bI<|cC e fp];exact e
 refine⟨⟨λb u e=>s1 _ _<|S.base _ _ e,λb u e=> ?_,λb u e=> ?_,S.slots.mono s1 λl hl=> ?_,S.nd⟩,s1⟩
 ·by_cases h:b=p
  ·subst h;rw[bV] at e ⊢;exact e
  ·rw[bI h] at e ⊢;exact S.sub _ _ e
 ·by_cases h:b=p
  ·subst h;rw[bV] at e;cases e;exact ho
  ·rw[bI h] at e;exact S.smp _ _ e
 ·obtain⟨n,xs,q,_⟩:=S.slots.owns hl;have hne:l≠p:=cC q hp;exact⟨by rw[bI hne];exact n,λys e=>by rw[bI hne];exact e⟩
theorem StF.layO{p:BG}{xs:List V}(S:StF K H₀ F H σ sd)(hp:H p=none):StF K H₀ F (upd H p<|.lst xs) σ sd/\F p=none/\p∉cA sd:=by
 have fp:F p=none:=S.sub.free hp;refine⟨⟨S.base,λb u e=> ?_,λb u e=> ?_,S.slots.mono (Same.refl _) λl hl=> ?_,S.nd⟩,fp,λhl=> ?_⟩
 ·rw[bI<|cC e fp];exact S.sub _ _ e
 ·by_cases h:b=p
  ·subst h;rw[bV] at e;cases e;trivial
  ·rw[bI h] at e;exact S.smp _ _ e
 ·obtain⟨n,ys,q,_⟩:=S.slots.owns hl;have hne:l≠p:=cC q hp;exact⟨n,λys e=>by rw[bI hne];exact e⟩
 ·obtain⟨n,ys,q,_⟩:=S.slots.owns hl;rw[hp] at q;cases q
theorem StF.freeze{p:BG}{xs:List V}(S:StF K H₀ F H σ sd)(hp:H p=some (.lst xs))(fp:F p=none)(ho:p∉cA sd):StF K H₀ (upd F p<|.lst xs) H σ sd/\Same F (upd F p<|.lst xs):=by
 have s1:Same F (upd F p<|.lst xs):=λb u e=>by rw[bI<|cC e fp];exact e
 refine⟨⟨λb u e=>s1 _ _<|S.base _ _ e,λb u e=> ?_,S.smp,S.slots.mono s1 λl hl=> ?_,S.nd⟩,s1⟩
 ·by_cases h:b=p
  ·subst h;rw[bV] at e;rw[hp];exact e
  ·rw[bI h] at e;exact S.sub _ _ e
 ·obtain⟨n,ys,q,_⟩:=S.slots.owns hl;have hne:l≠p:=λz=>ho (z▸hl)
  exact⟨by rw[bI hne];exact n,λys e=>e⟩
theorem SlotsOk.len:∀ {sd:List Slot}{σ:St},SlotsOk K F H sd σ->σ.length=sd.length
 |[],_,h=>by have h:_=_:=h;rw[h];rfl
 |z::zs,σ,h=>by obtain⟨o,r,rfl,_,b⟩:=h;simp[SlotsOk.len b]
inductive R where
 |val (d:D)|own (ds:List D)|bor (ds:List D)|pr (d:D) (ls:List D)|ox (G:V->List BG->Hp->Hp->Prop)
def LOk(K:aB)(F H:Hp)(sd:List Slot)(v:V)(ds:List D):Prop:=
 ∃l xs,v=.ref l/\H l=some (.lst xs)/\RepL K F ds xs/\(F l=some (.lst xs)\/Slot.own l ds∈sd)
noncomputable def ResOk(K:aB)(F H:Hp)(sd:List Slot):R->V->Prop
 |.val d,v=>Rep K F d v
 |.own ds,v=>∃l xs,v=.ref l/\F l=none/\H l=some (.lst xs)/\RepL K F ds xs/\l∉cA sd
 |.bor ds,v=>LOk K F H sd v ds
 |.pr d ls,v=>∃t l xs y,v=.ref t/\F t=some (.tup [y,.ref l])/\Rep K F d y/\F l=none/\H l=some (.lst xs)/\RepL K F ls xs/\l∉cA sd
 |.ox G,v=>∃ls:List BG,ls.Nodup/\(∀l∈ls,F l=none/\(∃ob,H l=some ob/\Wr l ob)/\l∉cA sd)/\∀F' H',Same F F'->(∀l∈ls,∀ob,H l=some ob->H' l=some ob)->G v ls F' H'
noncomputable def R.keeps:R->Prop
 |.own _=>False
 |.pr _ _=>False
 |.ox _=>False
 |_=>True
variable {r:R}{v:V}
theorem ResOk.keep(hr:r.keeps)(h:ResOk K F H sd r v)(S':StF K H₀ F' H' σ sd)(s:Same F F'):ResOk K F' H' sd r v:=by
 cases r with
 |val d=>exact Rep.mono s h
 |own ds=>exact hr.elim
 |pr d ls=>exact hr.elim
 |ox G=>exact hr.elim
 |bor ds=>
  obtain⟨l,xs,e,hl,rl,q⟩:=h
  rcases q with q|q
  ·exact⟨l,xs,e,S'.sub _ _<|s _ _ q,rl.mono s,.inl<|s _ _ q⟩
  ·obtain⟨i,hi⟩:=cX q;obtain⟨o,_,e2,_,ys,h1,h2⟩:=S'.slots.get hi;exact⟨l,ys,e,h1,h2,.inr q⟩
structure PEd(X:Cx)(sd:List Slot)(e:Expr)(r:R):Prop where
 run:∀ (σ:St) (F H:Hp),StF X.K X.B₀ F H σ sd->
 wE X e σ H λv H'=>∃F',StF X.K X.B₀ F' H' σ sd/\Same F F'/\ResOk X.K F' H' sd r v
instance {X:Cx}{sd:List Slot}{e:Expr}{r:R}:CoeFun (PEd X sd e r) (fun _=>∀ (σ:St) (F H:Hp),StF X.K X.B₀ F H σ sd→
 wE X e σ H λv H'=>∃F',StF X.K X.B₀ F' H' σ sd/\Same F F'/\ResOk X.K F' H' sd r v):=⟨PEd.run⟩
structure PTd(X:Cx)(sd:List Slot)(e:Expr)(b:Bool):Prop where
 run:∀ (σ:St) (F H:Hp),StF X.K X.B₀ F H σ sd->
 wT X e σ H λc H'=>c=b/\∃F',StF X.K X.B₀ F' H' σ sd/\Same F F'
instance {X:Cx}{sd:List Slot}{e:Expr}{b:Bool}:CoeFun (PTd X sd e b) (fun _=>∀ (σ:St) (F H:Hp),StF X.K X.B₀ F H σ sd→
 wT X e σ H λc H'=>c=b/\∃F',StF X.K X.B₀ F' H' σ sd/\Same F F'):=⟨PTd.run⟩
structure PWd(X:Cx)(sd:List Slot)(e:Expr)(b:Bool):Prop where
 run:∀ (σ:St) (F H:Hp),StF X.K X.B₀ F H σ sd->
 wW X e σ H λc H'=>c=b/\∃F',StF X.K X.B₀ F' H' σ sd/\Same F F'
instance {X:Cx}{sd:List Slot}{e:Expr}{b:Bool}:CoeFun (PWd X sd e b) (fun _=>∀ (σ:St) (F H:Hp),StF X.K X.B₀ F H σ sd→
 wW X e σ H λc H'=>c=b/\∃F',StF X.K X.B₀ F' H' σ sd/\Same F F'):=⟨PWd.run⟩
inductive RsOk(K:aB)(F H:Hp)(sd:List Slot):List R->List V->Prop
 |nil:RsOk K F H sd [] []
 |cons {r v rs vs}:ResOk K F H sd r v->RsOk K F H sd rs vs->RsOk K F H sd (r::rs) (v::vs)
structure PAd(X:Cx)(sd:List Slot)(es:List Expr)(rs:List R):Prop where
 run:∀ (σ:St) (F H:Hp),StF X.K X.B₀ F H σ sd->
 wA X es σ H λvs H'=>∃F',StF X.K X.B₀ F' H' σ sd/\Same F F'/\RsOk X.K F' H' sd rs vs
instance {X:Cx}{sd:List Slot}{es:List Expr}{rs:List R}:CoeFun (PAd X sd es rs) (fun _=>∀ (σ:St) (F H:Hp),StF X.K X.B₀ F H σ sd→
 wA X es σ H λvs H'=>∃F',StF X.K X.B₀ F' H' σ sd/\Same F F'/\RsOk X.K F' H' sd rs vs):=⟨PAd.run⟩
structure iJ where
 nx:List Slot->Prop
 rt:R->Prop
 bk:List Slot->Prop:=λ_=>False
 ct:List Slot->Prop:=λ_=>False
def aFp(K:aB)(H₀ H:Hp)(r:R)(v:V):Prop:=∃F,Same H₀ F/\Same F H/\Smp H/\ResOk K F H [] r v
noncomputable def lft(X:Cx)(F₀:Hp)(E:iJ):tT where
 nx:=λσ H=>∃sd F,StF X.K X.B₀ F H σ sd/\Same F₀ F/\E.nx sd
 rt:=λv H=>∃r,aFp X.K X.B₀ H r v/\E.rt r
 bk:=λσ H=>∃sd F,StF X.K X.B₀ F H σ sd/\Same F₀ F/\E.bk sd
 ct:=λσ H=>∃sd F,StF X.K X.B₀ F H σ sd/\Same F₀ F/\E.ct sd
structure PSd(X:Cx)(sd:List Slot)(sts:List BK)(E:iJ):Prop where
 run:∀ (σ:St) (F H:Hp),StF X.K X.B₀ F H σ sd->wSs X sts (lft X F E) σ H
instance {X:Cx}{sd:List Slot}{sts:List BK}{E:iJ}:CoeFun (PSd X sd sts E) (λ_=>∀ (σ:St) (F H:Hp),StF X.K X.B₀ F H σ sd->wSs X sts (lft X F E) σ H):=⟨PSd.run⟩
structure PSd1(X:Cx)(sd:List Slot)(st:BK)(E:iJ):Prop where
 run:∀ (σ:St) (F H:Hp),StF X.K X.B₀ F H σ sd->wS X st (lft X F E) σ H
instance {X:Cx}{sd:List Slot}{st:BK}{E:iJ}:CoeFun (PSd1 X sd st E) (λ_=>∀ (σ:St) (F H:Hp),StF X.K X.B₀ F H σ sd->wS X st (lft X F E) σ H):=⟨PSd1.run⟩
variable {X:Cx}{e a b c:Expr}{es:List Expr}{pos:Pos}{ra rb:R}{d:D}{ds:List D}
theorem PEd.val(h:PEd X sd e (.own ds)):PEd X sd e (.val<|.lst ds):=.mk λσ F H S=>(h σ F H S).imp λv H' ⟨F',S',s,l,xs,e,n,q,rl,no⟩=>by obtain⟨S2,s2⟩:=S'.freeze q n no;refine⟨_,S2,s.trans s2, ?_⟩;show Rep _ _ _ _;simp only[Rep];exact⟨l,xs,e,bV,rl.mono s2⟩
theorem PEd.bor(h:PEd X sd e (.val<|.lst ds)):PEd X sd e (.bor ds):=.mk λσ F H S=>(h σ F H S).imp λv H' ⟨F',S',s,q⟩=>by have q:Rep _ _ _ _:=q;simp only[Rep] at q;obtain⟨l,xs,e,q,rl⟩:=q;exact⟨F',S',s,l,xs,e,S'.sub _ _ q,rl,.inl q⟩
theorem kJ(i:Nat){x:Str}(hs:sd[i]? =some (.val d))(h:PE X (.Name x pos) (jO i)):PEd X sd (.Name x pos) (.val d):= .mk fun σ F H S=>h.to (by
 obtain⟨o,h1,v,h2,q⟩:=S.slots.get hs
 exact⟨v,by rw[h1,h2],F,S,Same.refl _,q⟩)
theorem aIy(i:Nat){x:Str}{l:BG}(hs:sd[i]? =some (.own l ds))(h:PE X (.Name x pos) (jO i)):PEd X sd (.Name x pos) (.bor ds):= .mk fun σ F H S=>h.to (by
 obtain⟨o,h1,h2,n,xs,q,rl⟩:=S.slots.get hs
 exact⟨.ref l,by rw[h1,h2],F,S,Same.refl _,l,xs,rfl,q,rl,.inr (aK hs)⟩)
theorem bX{i j}:PEd X sd (.Constant (.int i) j pos) (.val<|.int i):=.mk λσ F H S=>pe_int.to ⟨F,S,Same.refl _,by simp only[ResOk,Rep]⟩
theorem vR{i j}:PEd X sd (.Constant (.bool i) j pos) (.val<|.bl i):=.mk λσ F H S=>pe_bl.to ⟨F,S,Same.refl _,by simp only[ResOk,Rep]⟩
theorem lE{j}:PEd X sd (.Constant .none j pos) (.val .non):=.mk λσ F H S=>pe_non.to ⟨F,S,Same.refl _,by simp only[ResOk,Rep]⟩
theorem dA{i j}:PEd X sd (.Constant (.str i) j pos) (.val<|.str i):=.mk λσ F H S=>pe_str.to ⟨F,S,Same.refl _,by simp only[ResOk,Rep]⟩
theorem aFt{x:Str}{i:Int}{u:BE}(hg:Gl X x)(hm:X.mg x=some u)(ru:RelV (.int i) u)(hd:(x==("__debug__":Str))=false:=by decide):PEd X sd (.Name x pos) (.val<|.int i):=.mk λσ F H S=>(mU hg hm ru hd).to ⟨F,S,Same.refl _,by simp only[ResOk,Rep]⟩
theorem aO:PAd X sd [] []:=.mk λσ F H S=>pa_nil.to ⟨F,S,Same.refl _,.nil⟩
theorem aC{rs:List R}(h1:PEd X sd e r)(h2:PAd X sd es rs)(hk:r.keeps:=by trivial)(hs:AC (e::es) X.env=(false,eval e X.env)::AC es X.env:=by rfl):PAd X sd (e::es) (r::rs):=.mk λσ F H S=>(dP eY zT hs).to<|(h1 σ F H S).imp λv H1 ⟨F1,S1,s1,q1⟩=>(h2 σ F1 H1 S1).imp λvs H2 ⟨F2,S2,s2,q2⟩=>⟨F2,S2,s1.trans s2,.cons (q1.keep hk S2 s2) q2⟩
theorem RsOk.vals{K:aB}{F H:Hp}:∀ {ds:List D}{vs:List V},RsOk K F H sd (ds.map R.val) vs->RepL K F ds vs
 |[],_,.nil=>.nil
 |_::_,_,.cons q t=>.cons q<|RsOk.vals t
theorem aCz{x1}(h:PAd X sd es (ds.map R.val))(hl:ds.length<=10000):PEd X sd (.Tuple es x1 pos) (.val<|.tup ds):=.mk λσ F H S=>
 (aCO zT).to ((h σ F H S).imp fun vs H1 ⟨F1,S1,s1,q1⟩=>by
  have rl:=q1.vals;refine⟨by rw[rl.len];exact dN<|fI hl,λp hp=> ?_⟩;obtain⟨S2,s2⟩:=S1.lay (o:=.tup vs) hp trivial;refine⟨_,S2,s1.trans s2, ?_⟩;simp only[ResOk,Rep]
  exact⟨p,vs,rfl,bV,rl.mono s2⟩)
theorem oM(h:PAd X sd es (ds.map R.val))(hl:ds.length<=10000):PEd X sd (.List es pos) (.own ds):=.mk λσ F H S=>
 (aLG zT).to ((h σ F H S).imp fun vs H1 ⟨F1,S1,s1,q1⟩=>by
  have rl:=q1.vals;refine⟨by rw[rl.len];exact dN<|fI hl,λp hp=> ?_⟩;obtain⟨S2,fp,no⟩:=S1.layO (xs:=vs) hp
  exact⟨_,S2,s1,p,vs,rfl,fp,bV,rl,no⟩)
theorem aCx{op:Operator}{r2:R2}(ho:OpR X (Ai op) r2)(ha:PEd X sd a ra)(hb:PEd X sd b rb)(hk:ra.keeps)
  (h:∀ (σ:St) (F H:Hp) (v u:V) (Q:VK),StF X.K X.B₀ F H σ sd->ResOk X.K F H sd ra v->ResOk X.K F H sd rb u->(∀w F' H',StF X.K X.B₀ F' H' σ sd->Same F F'->ResOk X.K F' H' sd r w->Q w H')->r2 v u H Q):
  PEd X sd (.BinOp a op b pos) r:=.mk λσ F H S=>
 (aNF ho eY eY).to ((ha σ F H S).imp λv H1 ⟨F1,S1,s1,q1⟩=>(hb σ F1 H1 S1).imp λu H2 ⟨F2,S2,s2,q2⟩=>h σ F2 H2 v u _ S2 (q1.keep hk S2 s2) q2 λw F' H' S' s' q'=>⟨F',S',(s1.trans s2).trans s',q'⟩)
theorem uK{op:CmpOp}{r2:R2}(ho:OpR X (AS op) r2)(ha:PEd X sd a ra)(hb:PEd X sd b rb)(hk:ra.keeps)(hm:AT op b=false){k:Bool}
  (h:∀ (σ:St) (F H:Hp) (v u:V) (Q:VK),StF X.K X.B₀ F H σ sd->ResOk X.K F H sd ra v->ResOk X.K F H sd rb u->(∀F' H',StF X.K X.B₀ F' H' σ sd->Same F F'->Q (.bl k) H')->r2 v u H Q):
  PEd X sd (.Compare a [op] [b] pos) (.val<|.bl k):=.mk λσ F H S=>
 (aDg ho eY eY hm).to ((ha σ F H S).imp λv H1 ⟨F1,S1,s1,q1⟩=>(hb σ F1 H1 S1).imp λu H2 ⟨F2,S2,s2,q2⟩=>h σ F2 H2 v u _ S2 (q1.keep hk S2 s2) q2 λF' H' S' s'=>⟨F',S',(s1.trans s2).trans s',by simp only[ResOk,Rep]⟩)
theorem lQ{k:Bool}(h:PEd X sd e (.val<|.bl k))(he:∀whole,isTrue e X.env whole=(do let v <-whole;standAt e.pos;holding [v] (truthy v)):=by intro _;rfl):PTd X sd e k:=.mk λσ F H S=>
 (aMj eY he).to ((h σ F H S).imp fun v H1 ⟨F1,S1,s1,q1⟩=>by
  simp only[ResOk,Rep] at q1
  exact⟨k,q1,rfl,F1,S1,s1⟩)
theorem kB{op:CmpOp}{r2:R2}(ho:OpR X (AS op) r2)(ha:PEd X sd a ra)(hb:PEd X sd b rb)(hk:ra.keeps)(hm:AT op b=false){k:Bool}
  (h:∀ (σ:St) (F H:Hp) (v u:V) (Q:VK),StF X.K X.B₀ F H σ sd->ResOk X.K F H sd ra v->ResOk X.K F H sd rb u->(∀F' H',StF X.K X.B₀ F' H' σ sd->Same F F'->Q (.bl k) H')->r2 v u H Q):
  PTd X sd (.Compare a [op] [b] pos) k:=.mk λσ F H S=>
 (uG ho eY eY hm).to ((ha σ F H S).imp λv H1 ⟨F1,S1,s1,q1⟩=>(hb σ F1 H1 S1).imp λu H2 ⟨F2,S2,s2,q2⟩=>h σ F2 H2 v u _ S2 (q1.keep hk S2 s2) q2 λF' H' S' s'=>⟨k,rfl,rfl,F',S',(s1.trans s2).trans s'⟩)
variable {st:BK}{rest:List BK}{E:iJ}
theorem wS.imp{D D':tT}(h:wS X st D σ H)(k1:∀σ H,D.nx σ H->D'.nx σ H)(k2:∀v H,D.rt v H->D'.rt v H)(k3:∀σ H,D.bk σ H->D'.bk σ H)(k4:∀σ H,D.ct σ H->D'.ct σ H):wS X st D' σ H:=
 λpins s I=>thn (h pins s I) λf s' q=>q.imp k1 k2 k3 k4
theorem nG{k:Bool}(h:PTd X sd e k):PTd X sd (.UnaryOp .Not e pos) (!k):=.mk λσ F H S=>(aLQ aHS).to<|(h σ F H S).imp λc H' ⟨e,q⟩=>⟨by rw[e],q⟩
theorem lB{k:Bool}(h:PTd X sd a k):PWd X sd (.BoolOp .And [a] pos) k:=.mk λσ F H S=>(aIY aHS).to<|h σ F H S
theorem mO{k:Bool}(h:PTd X sd a k):PWd X sd (.BoolOp .Or [a] pos) k:=.mk λσ F H S=>(aMJ aHS).to<|h σ F H S
theorem kS{k j:Bool}(h:PTd X sd a k)(h2:k=true->PWd X sd (.BoolOp .And (b::es) pos) j):PWd X sd (.BoolOp .And (a::b::es) pos) (k&&j):=.mk λσ F H S=>
 (aMH aHS aND).to ((h σ F H S).imp fun c H' ⟨e,F',S',s'⟩=>by
  subst e;cases c with
  |false=>exact aGF ⟨rfl,F',S',s'⟩
  |true=>exact aGG ((h2 rfl σ F' H' S').imp λc2 H2 ⟨e2,F2,S2,s2⟩=>⟨by rw[e2];rfl,F2,S2,s'.trans s2⟩))
theorem mM{k j:Bool}(h:PTd X sd a k)(h2:k=false->PWd X sd (.BoolOp .Or (b::es) pos) j):PWd X sd (.BoolOp .Or (a::b::es) pos) (k||j):=.mk λσ F H S=>
 (aOh aHS aND).to ((h σ F H S).imp fun c H' ⟨e,F',S',s'⟩=>by
  subst e;cases c with
  |true=>exact aGG ⟨rfl,F',S',s'⟩
  |false=>exact aGF ((h2 rfl σ F' H' S').imp λc2 H2 ⟨e2,F2,S2,s2⟩=>⟨by rw[e2];rfl,F2,S2,s'.trans s2⟩))
theorem PWd.pt{k:Bool}(h:PWd X sd e k):PTd X sd e k:=.mk λσ F H S=>(aND).pt.to<|h σ F H S
theorem oH{op}{r:R}(h:PEd X sd a r):PEd X sd (.BoolOp op [a] pos) r:=.mk λσ F H S=>(aLB eY).to<|h σ F H S
theorem mP{k j:Bool}(h:PEd X sd a (.val<|.bl k))(h2:k=true->PEd X sd (.BoolOp .And (b::es) pos) (.val<|.bl j)):PEd X sd (.BoolOp .And (a::b::es) pos) (.val (.bl<|k&&j)):=.mk λσ F H S=>
 (aMd eY eY).to ((h σ F H S).imp fun v H' ⟨F',S',s',q⟩=>by
  simp only[ResOk,Rep] at q;subst q;refine⟨k,rfl, ?_⟩;cases k with
  |false=>exact aGF ⟨F',S',s',by simp only[ResOk,Rep,pR]⟩
  |true=>exact aGG ((h2 rfl σ F' H' S').imp λv2 H2 ⟨F2,S2,s2,q2⟩=>⟨F2,S2,s'.trans s2,by simpa only[aBu] using q2⟩))
theorem aOd{k j:Bool}(h:PEd X sd a (.val<|.bl k))(h2:k=false->PEd X sd (.BoolOp .Or (b::es) pos) (.val<|.bl j)):PEd X sd (.BoolOp .Or (a::b::es) pos) (.val<|.bl (k||j)):=.mk λσ F H S=>
 (aNR eY eY).to ((h σ F H S).imp fun v H' ⟨F',S',s',q⟩=>by
  simp only[ResOk,Rep] at q;subst q;refine⟨k,rfl, ?_⟩;cases k with
  |true=>exact aGG ⟨F',S',s',by simp only[ResOk,Rep,aOr]⟩
  |false=>exact aGF ((h2 rfl σ F' H' S').imp λv2 H2 ⟨F2,S2,s2,q2⟩=>⟨F2,S2,s'.trans s2,by simpa only[aBt] using q2⟩))
theorem aHq{k:Bool}(h:PEd X sd a (.val<|.bl k)):PEd X sd (.UnaryOp .Not a pos) (.val (.bl<|!k)):=.mk λσ F H S=>
 (aLP eY).to ((h σ F H S).imp fun v H' ⟨F',S',s',q⟩=>by
  simp only[ResOk,Rep] at q
  exact⟨k,q,F',S',s',by simp only[ResOk,Rep]⟩)
theorem gF{op:Operator}{g:Int->Int->Int}{i j:Int}(ho:OpR X (Ai op) (rI0 λi j=>.int<|g i j))(ha:PEd X sd a (.val<|.int i))(hb:PEd X sd b (.val<|.int j)):PEd X sd (.BinOp a op b pos) (.val (.int<|g i j)):=
 aCx ho ha hb trivial λσ F H v u Q S q1 q2 k=>by simp only[ResOk,Rep] at q1 q2;exact⟨i,j,q1,q2,k _ F H S (Same.refl _)<|by simp only[ResOk,Rep]⟩
theorem dY{op:Operator}{g:Int->Int->Int}{C:Int->Int->Prop}{i j:Int}(ho:OpR X (Ai op) (rI C λi j=>.int<|g i j))(ha:PEd X sd a (.val<|.int i))(hb:PEd X sd b (.val<|.int j))(hc:C i j):PEd X sd (.BinOp a op b pos) (.val (.int<|g i j)):=
 aCx ho ha hb trivial λσ F H v u Q S q1 q2 k=>by simp only[ResOk,Rep] at q1 q2;exact⟨i,j,q1,q2,hc,k _ F H S (Same.refl _)<|by simp only[ResOk,Rep]⟩
theorem kU:OpR X (Ai .Mult) (rI IntMulOk λi j=>.int<|i*j):=opI λ_ _ _ _ _ _ _ hc q=>mul_int q hc
theorem aBk:OpR X (Ai .FloorDiv) (rI (λ_ j=>0<j/\j.natAbs.log2<9000) λi j=>.int<|i / j):=opI λi j _ _ _ _ _ hc q=>by have h1:(0:Int)<j:=hc.1;exact floordiv_int (by omega) (by rw[aAd i<|by omega];exact q) (.inl<|PyProof.noPylong_of_log2 hc.2)
theorem aId{op:CmpOp}{g:Int->Int->Bool}{i j:Int}(ho:OpR X (AS op) (rI0 λi j=>.bl<|g i j))(ha:PEd X sd a (.val<|.int i))(hb:PEd X sd b (.val<|.int j))(hm:AT op b=false):PEd X sd (.Compare a [op] [b] pos) (.val (.bl<|g i j)):=
 uK ho ha hb trivial hm λσ F H v u Q S q1 q2 k=>by simp only[ResOk,Rep] at q1 q2;exact⟨i,j,q1,q2,k F H S<|Same.refl _⟩
theorem kM{op:CmpOp}{g:Int->Int->Bool}{i j:Int}(ho:OpR X (AS op) (rI0 λi j=>.bl<|g i j))(ha:PEd X sd a (.val<|.int i))(hb:PEd X sd b (.val<|.int j))(hm:AT op b=false):PTd X sd (.Compare a [op] [b] pos) (g i j):=
 kB ho ha hb trivial hm λσ F H v u Q S q1 q2 k=>by simp only[ResOk,Rep] at q1 q2;exact⟨i,j,q1,q2,k F H S<|Same.refl _⟩
noncomputable def flt:D->Option V
 |.non=>some .non
 |.bl b=>some<|.bl b
 |.int i=>some<|.int i
 |.str x=>some<|.str x
 |_=>none
theorem qP{x:V}(h:flt d=some x)(q:Rep K H d v):v=x:=by
 cases d with
 |non=>simp only[Rep] at q;simp only[flt] at h;rw[q];exact bS.inj h
 |bl=>simp only[Rep] at q;simp only[flt] at h;rw[q];exact bS.inj h
 |int=>simp only[Rep] at q;simp only[flt] at h;rw[q];exact bS.inj h
 |str=>simp only[Rep] at q;simp only[flt] at h;rw[q];exact bS.inj h
 |tup=>simp only[flt] at h;cases h
 |lst=>simp only[flt] at h;cases h
 |dic=>simp only[flt] at h;cases h
 |dki=>simp only[flt] at h;cases h
 |any=>simp only[flt] at h;cases h
 |scr=>simp only[flt] at h;cases h
theorem cP{d1 d2:D}{x y:V}{k:Bool}(ha:PEd X sd a (.val d1))(hb:PEd X sd b (.val d2))(h1:flt d1=some x)(h2:flt d2=some y)(hs:aNc x y=true)(hk:decide (x=y)=k):PTd X sd (.Compare a [.Eq] [b] pos) k:=
 kB aLe ha hb trivial (fR _) λσ F H v u Q S q1 q2 kk=>by have e1:=qP h1 q1;have e2:=qP h2 q2;subst e1 e2;exact⟨hs,by rw[hk];exact kk F H S<|Same.refl _⟩
theorem aIV{d1 d2:D}{x y:V}{k:Bool}(ha:PEd X sd a (.val d1))(hb:PEd X sd b (.val d2))(h1:flt d1=some x)(h2:flt d2=some y)(hs:aNc x y=true)(hk:(!decide (x=y))=k):PTd X sd (.Compare a [.NotEq] [b] pos) k:=
 kB aOf ha hb trivial (fR _) λσ F H v u Q S q1 q2 kk=>by have e1:=qP h1 q1;have e2:=qP h2 q2;subst e1 e2;exact⟨hs,by rw[hk];exact kk F H S<|Same.refl _⟩
theorem aJL{i j:Int}(ha:PEd X sd a (.val<|.int i))(hb:PEd X sd b (.val<|.int j)):PTd X sd (.Compare a [.Eq] [b] pos) (decide<|i=j):=cP ha hb rfl rfl rfl (by rw[qK,pI])
theorem aJd{i j:Int}(ha:PEd X sd a (.val<|.int i))(hb:PEd X sd b (.val<|.int j)):PTd X sd (.Compare a [.NotEq] [b] pos) (!decide (i=j)):=aIV ha hb rfl rfl rfl (by rw[qK,pI])
theorem aDV:OpR X (AS .IsNot) (λx y H Q=>∃p q:Bool,x=.bl p/\y=.bl q/\Q (.bl<|!(p==q)) H):=by intro pins s σ H x y v u Q I rx ry h;obtain⟨p,q,rfl,rfl,h⟩:=h;cases(show v=Value.bool p from rx);cases(show u=Value.bool q from ry);refine wpAny_isNot_plain (by cases p<;>cases q<;>rfl) ⟨.bl<|!(p==q),H,I, ?_,h⟩;show Value.bool (!(Value.bool p==Value.bool q))=Value.bool (!(p==q));cases p<;>cases q<;>rfl
theorem aBE{p q:Bool}(ha:PEd X sd a (.val<|.bl p))(hb:PEd X sd b (.val<|.bl q)):PTd X sd (.Compare a [.IsNot] [b] pos) (!(p==q)):=
 kB aDV ha hb trivial (fR _) λσ F H v u Q S q1 q2 k=>by simp only[ResOk,Rep] at q1 q2;exact⟨p,q,q1,q2,k F H S<|Same.refl _⟩
theorem zM{n:Nat}(ha:PEd X sd a (.val<|.tup ds))(hb:PEd X sd b (.val<|.int (n:Int)))(hd:ds[n]? =some d)(hs:mQ b):PEd X sd (.Subscript a b pos) (.val d):=.mk λσ F H S=>
 (aFn aLM eY eY hs).to ((ha σ F H S).imp fun v H1 ⟨F1,S1,s1,q1⟩=>(hb σ F1 H1 S1).imp fun u H2 ⟨F2,S2,s2,q2⟩=>by
  have q1:=Rep.mono s2 q1;simp only[ResOk,Rep] at q1 q2;obtain⟨p,xs,e1,hp,rl⟩:=q1;obtain⟨w,hw,rw'⟩:=rl.get hd
  exact⟨p,xs,(n:Int),w,e1,q2,.of (S2.sub _ _ hp),zR hw,F2,S2,s1.trans s2,rw'⟩)
theorem jU{n:Nat}(ha:PEd X sd a (.bor ds))(hb:PEd X sd b (.val<|.int (n:Int)))(hd:ds[n]? =some d)(hs:mQ b):PEd X sd (.Subscript a b pos) (.val d):=.mk λσ F H S=>
 (aFn aAg eY eY hs).to ((ha σ F H S).imp fun v H1 ⟨F1,S1,s1,q1⟩=>(hb σ F1 H1 S1).imp fun u H2 ⟨F2,S2,s2,q2⟩=>by
  obtain⟨p,xs,e1,hp,rl,_⟩:=ResOk.keep (r:=.bor ds) trivial q1 S2 s2;simp only[ResOk,Rep] at q2;obtain⟨w,hw,rw'⟩:=rl.get hd
  exact⟨p,xs,(n:Int),w,e1,q2,.of hp,zR hw,F2,S2,s1.trans s2,rw'⟩)
theorem aMo{ns:List Int}{n:Nat}{z:Int}(ha:PEd X sd a (.val<|.scr ns))(hb:PEd X sd b (.val<|.int (n:Int)))(hd:ns[n]? =some z)(hs:mQ b):PEd X sd (.Subscript a b pos) (.val<|.int z):=.mk λσ F H S=>
 (aFn aAg eY eY hs).to ((ha σ F H S).imp fun v H1 ⟨F1,S1,s1,q1⟩=>(hb σ F1 H1 S1).imp fun u H2 ⟨F2,S2,s2,q2⟩=>by
  have q1:=Rep.mono (s2.trans S2.sub) q1;simp only[ResOk,Rep] at q1 q2;obtain⟨p,e1,hp⟩:=q1
  exact⟨p,_,(n:Int),.int z,e1,q2,hp,zR (by rw[aS,hd];rfl),F2,S2,s1.trans s2,by simp only[ResOk,Rep]⟩)
theorem mC{x:Str}{p:Pos}{id:String}{rr:List V->Hp->VK->Prop}{rs:List R}(hc:kG X (.builtin id) rr)(hg:Gl X x)(hm:X.mg x=none)(hv:Ae x=some (.builtin id))(ha:PAd X sd (e::es) rs)
  (h:∀ (σ:St) (F H:Hp) (vs:List V) (Q:VK),StF X.K X.B₀ F H σ sd->RsOk X.K F H sd rs vs->(∀w F' H',StF X.K X.B₀ F' H' σ sd->Same F F'->ResOk X.K F' H' sd r w->Q w H')->rr vs H Q)
  (hn:x≠"__name__":=by decide) (hdb:(x==("__debug__":Str))=false:=by decide) (he:AC (e::es) X.env=(false,eval e X.env)::AC es X.env:=by rfl) (hpl:(Af pos<|AC es X.env).any (·.1)=false:=by rfl):
  PEd X sd (.Call (.Name x p) (e::es) [] pos) r:=.mk λσ F H S=>
 (kC hc hg hm hv zT hn hdb he hpl).to ((ha σ F H S).imp λvs H1 ⟨F1,S1,s1,q1⟩=>h σ F1 H1 vs _ S1 q1 λw F' H' S' s' q'=>⟨F',S',s1.trans s',q'⟩)
theorem yB{x:Str}{p:Pos}{T:String}{rr:List V->Hp->VK->Prop}{rs:List R}(hc:kG X (.type T) rr)(hg:Gl X x)(hm:X.mg x=none)(hv:Ae x=some (.type T))(ha:PAd X sd (e::es) rs)
  (h:∀ (σ:St) (F H:Hp) (vs:List V) (Q:VK),StF X.K X.B₀ F H σ sd->RsOk X.K F H sd rs vs->(∀w F' H',StF X.K X.B₀ F' H' σ sd->Same F F'->ResOk X.K F' H' sd r w->Q w H')->rr vs H Q)
  (hn:x≠"__name__":=by decide) (hdb:(x==("__debug__":Str))=false:=by decide) (he:AC (e::es) X.env=(false,eval e X.env)::AC es X.env:=by rfl) (hpl:(Af pos<|AC es X.env).any (·.1)=false:=by rfl):
  PEd X sd (.Call (.Name x p) (e::es) [] pos) r:=.mk λσ F H S=>
 (aEj hc hg hm hv zT hn hdb he hpl).to ((ha σ F H S).imp λvs H1 ⟨F1,S1,s1,q1⟩=>h σ F1 H1 vs _ S1 q1 λw F' H' S' s' q'=>⟨F',S',s1.trans s',q'⟩)
theorem mS{p:Pos}(hg:Gl X "len")(hm:X.mg "len"=none)(ha:PEd X sd e (.bor ds))(hst:AC [e] X.env=(false,eval e X.env)::AC [] X.env:=by rfl):PEd X sd (.Call (.Name "len" p) [e] [] pos) (.val<|.int ds.length):=
 mC (he:=hst) qH hg hm PySem.boot_len (aC ha aO trivial hst) λσ F H vs Q S q k=>by
  cases q with
  |cons q1 q2=>cases q2;obtain⟨p,xs,rfl,hp,rl,_⟩:=q1;refine⟨p,xs,rfl,.inl<|.of hp,k _ F H S (Same.refl _) ?_⟩;simp only[ResOk,Rep,rl.len]
theorem aJK{p:Pos}{ns:List Int}(hg:Gl X "len")(hm:X.mg "len"=none)(ha:PEd X sd e (.val<|.scr ns))(hst:AC [e] X.env=(false,eval e X.env)::AC [] X.env:=by rfl):PEd X sd (.Call (.Name "len" p) [e] [] pos) (.val<|.int ns.length):=
 mC (he:=hst) qH hg hm PySem.boot_len (aC ha aO trivial hst) λσ F H vs Q S q k=>by
  cases q with
  |cons q1 q2=>cases q2;have q1:=Rep.mono S.sub q1;simp only[Rep] at q1;obtain⟨p,rfl,hp⟩:=q1;refine⟨p,_,rfl,.inl hp,k _ F H S (Same.refl _) ?_⟩;simp only[ResOk,Rep,aA]
noncomputable def tyD:D->BE
 |.non=>.type "NoneType"
 |.bl _=>.type "bool"
 |.int _=>.type "int"
 |.str _=>.type "str"
 |.tup _=>.type "tuple"
 |.lst _=>.type "list"
 |.dic=>.type "dict"
 |.dki _ _=>.type "dict"
 |.any _=>.type "dict"
 |.scr _=>.type "list"
theorem aOl(h:∀ns,d≠ .scr ns)(hA:∀G,d≠ .any G)(q:Rep K H d v):qN K H v (tyD d):=by
 cases d with
 |non=>simp only[Rep] at q;subst q;exact .non
 |bl b=>simp only[Rep] at q;subst q;exact .bl b
 |int b=>simp only[Rep] at q;subst q;exact .int b
 |str b=>simp only[Rep] at q;subst q;exact .str b
 |tup ds=>simp only[Rep] at q;obtain⟨a,xs,rfl,h,_⟩:=q;exact .tup h
 |lst ds=>simp only[Rep] at q;obtain⟨a,xs,rfl,h,_⟩:=q;exact .lst h
 |dic=>simp only[Rep] at q;obtain⟨a,rfl,h⟩:=q;exact .dK<|.of h
 |dki ks ds=>simp only[Rep] at q;obtain⟨a,xs,rfl,h,_⟩:=q;exact .dK<|.inr h
 |scr ns=>exact absurd rfl<|h ns
 |any G=>exact absurd rfl<|hA G
theorem aDO:kG X (.builtin "isinstance") (λxs H Q=>∃x t n k,xs=[x,.ty n]/\qN X.K H x t/\bR X.K t (.type n)=some k/\Q (.bl k) H):=by intro pins s σ H xs us Q I r h;obtain⟨x,t,n,k,rfl,ty,e,q⟩:=h;obtain⟨u,u',rfl,ru,ru'⟩:=aHX r;cases(show u'=Value.type n from ru');exact aED I ru ty e λtk=>⟨.bl k,H,I.tok tk,rfl,q⟩
theorem aDr{x:Str}{n:String}(hg:Gl X x)(hm:X.mg x=none)(hv:Ae x=some (.type n))(hn:x≠"__name__":=by decide)(hd:(x==("__debug__":Str))=false:=by decide):PE X (.Name x pos) (tC<|.ty n):=aJQ hg hm hv rfl hn hd
theorem uL{x:Str}{n:String}{p p2:Pos}{k:Bool}(hg:Gl X "isinstance")(hm:X.mg "isinstance"=none)(hgx:Gl X x)(hmx:X.mg x=none)(hv:Ae x=some (.type n))(ha:PEd X sd e (.val d))(hd:∀ns,d≠ .scr ns)
  (hk:bR X.K (tyD d) (.type n)=some k) (hA:∀G,d≠ .any G:=by(intro _ h;cases h)) (hn:x≠"__name__":=by decide) (hdb:(x==("__debug__":Str))=false:=by decide)
  (he:AC (e::[.Name x p2]) X.env=(false,eval e X.env)::AC [.Name x p2] X.env:=by rfl) (hpl:(Af pos<|AC [.Name x p2] X.env).any (·.1)=false:=by rfl) (hs2:AC [.Name x p2] X.env=(false,eval (.Name x p2) X.env)::AC [] X.env:=by rfl):
  PEd X sd (.Call (.Name "isinstance" p) [e, .Name x p2] [] pos) (.val<|.bl k):=.mk λσ F H S=>
 (kC aDO hg hm boot_isinstance (dP eY (dP (aDr hgx hmx hv hn hdb) pa_nil hs2) he) (by decide) (by decide) he hpl).to ((ha σ F H S).imp λv H1 ⟨F1,S1,s1,q1⟩=>by exact⟨v,tyD d,n,k,rfl,aOl hd hA<|Rep.mono S1.sub q1,hk,F1,S1,s1,by simp only[ResOk,Rep]⟩)
theorem cW(h:E.nx sd):PSd X sd [] E:=.mk λσ F H S=>pss_nil.to ⟨sd,F,S,Same.refl _,h⟩
theorem aH(h:PSd1 X sd st {E with nx:=λsd'=>PSd X sd' rest E}):PSd X sd (st::rest) E:=.mk λσ F H S=>
 (aGb aOF rV).to (wS.imp (h σ F H S) (fun σ' H' ⟨sd',F',S',s',q⟩=>(q σ' F' H' S').imp (fun σ2 H2 ⟨sd2,F2,S2,s2,q2⟩=>⟨sd2,F2,S2,s'.trans s2,q2⟩) (fun v H2 q2=>q2)
  (λσ2 H2 ⟨sd2,F2,S2,s2,q2⟩=>⟨sd2,F2,S2,s'.trans s2,q2⟩) λσ2 H2 ⟨sd2,F2,S2,s2,q2⟩=>⟨sd2,F2,S2,s'.trans s2,q2⟩) (λv H q=>q) (λσ H q=>q) λσ H q=>q)
theorem aX(h:PSd1 X sd st E):PSd X sd [st] E:=.mk λσ F H S=>(aIX aOF).to<|h σ F H S
theorem cY(h:PEd X sd e r)(hr:match r with | .bor _=>False|_=>True)(hE:E.rt r):PSd1 X sd (.Return (some e) pos) E:=.mk λσ F H S=>
 (aGJ eY).to ((h σ F H S).imp fun v H' ⟨F',S',s',q⟩=>⟨r,⟨F',S'.base,S'.sub,S'.smp,by
  cases r with
  |val d=>exact q
  |own ds=>obtain⟨l,xs,a,b,c,d,_⟩:=q;exact⟨l,xs,a,b,c,d,by simp[cA]⟩
  |pr d ls=>obtain⟨t,l,xs,y,a,b,c,d,e,f,_⟩:=q;exact⟨t,l,xs,y,a,b,c,d,e,f,by simp[cA]⟩
  |ox G=>obtain⟨ls,nd,h,g⟩:=q;exact⟨ls,nd,λl hl=>⟨(h l hl).1,(h l hl).2.1,by simp[cA]⟩,g⟩
  |bor ds=>exact hr.elim⟩,hE⟩)
theorem lG(i:Nat){x:Str}{p:Pos}{l:BG}(hs:sd[i]? =some (.own l ds))(h:PE X (.Name x p) (jO i))(hE:E.rt (.own ds)):PSd1 X sd (.Return (some<|.Name x p) pos) E:=.mk λσ F H S=>
 (aGJ h).to (by
  obtain⟨o,h1,h2,n,xs,q,rl⟩:=S.slots.get hs
  exact⟨.ref l,by rw[h1,h2],.own ds,⟨F,S.base,S.sub,S.smp,l,xs,rfl,n,q,rl,by simp[cA]⟩,hE⟩)
theorem gJ{k:Bool}{a o:List BK}(h:PTd X sd c k)(h1:k=true->PSd X sd a E)(h2:k=false->PSd X sd o E):PSd1 X sd (.If c a o pos) E:=.mk λσ F H S=>
 (aNS aHS rV rV).to ((h σ F H S).imp fun k' H' ⟨e,F',S',s'⟩=>by
  have up:∀ {sts:List BK},PSd X sd sts E->wSs X sts (lft X F E) σ H':=λh=>(h σ F' H' S').imp (λσ2 H2 ⟨sd2,F2,S2,s2,q2⟩=>⟨sd2,F2,S2,s'.trans s2,q2⟩) (λv H2 q2=>q2)
   (λσ2 H2 ⟨sd2,F2,S2,s2,q2⟩=>⟨sd2,F2,S2,s'.trans s2,q2⟩) λσ2 H2 ⟨sd2,F2,S2,s2,q2⟩=>⟨sd2,F2,S2,s'.trans s2,q2⟩
  subst e;cases k' with
  |true=>exact aGG (up<|h1 rfl)
  |false=>exact aGF (up (h2 rfl)))
theorem iO:∀ {sd:List Slot}{z:Slot} (i:Nat),(cA sd).Nodup->(∀l,l∈gO z->l∉cA sd\/(∃z',sd[i]? =some z'/\l∈gO z'))->(hz:(gO z).Nodup:=by simp[gO])->(cA<|sd.set i z).Nodup/\∀l,l∈cA (sd.set i z)->l∈cA sd\/l∈gO z
 |[],z,i,h,_,_=>⟨h,λl hl=>.inl hl⟩
 |z'::zs,z,0,h,hz,nz=>by
  show(gO z++cA zs).Nodup/\∀l,l∈gO z++cA zs->_;obtain⟨n1,n2,n3⟩:=bE.mp (show(gO z'++cA zs).Nodup from h);refine⟨bE.mpr ⟨nz,n2,λa ha b hb e=> ?_⟩,λl hl=> ?_⟩
  ·subst e
   rcases hz a ha with y|⟨z2,e2,y⟩
   ·exact y<|aI _ hb
   ·have:z'=z2:=by simpa using e2
    subst this;exact n3 a y a hb rfl
  ·rcases aM.mp hl with y|y
   ·exact .inr y
   ·exact .inl<|aI _ y
 |z'::zs,z,i+1,h,hz,nz=>by
  show(gO z'++cA (zs.set i z)).Nodup/\∀l,l∈gO z'++cA (zs.set i z)->_;obtain⟨n1,n2,n3⟩:=bE.mp (show(gO z'++cA zs).Nodup from h)
  obtain ⟨i1,i2⟩:=iO (sd:=zs) (z:=z) i n2 (fun l hl=>by
   rcases hz l hl with y|⟨z2,e2,y⟩
   ·exact .inl λq=>y<|aI _ q
   ·exact .inr ⟨z2,by simpa using e2,y⟩) nz
  refine⟨bE.mpr ⟨n1,i1,λa ha b hb e=> ?_⟩,λl hl=> ?_⟩
  ·subst e
   rcases i2 a hb with y|y
   ·exact n3 a ha a y rfl
   ·rcases hz a y with y|⟨z2,e2,y⟩
    ·exact y<|aZ _ ha
    ·have m:a∈cA zs:=dI.mpr ⟨z2,aK (by simpa using e2),y⟩;exact n3 a ha a m rfl
  ·rcases aM.mp hl with y|y
   ·exact .inl<|aZ _ y
   ·rcases i2 l y with y|y
    ·exact .inl<|aI _ y
    ·exact .inr y
theorem StF.set(S:StF K H₀ F H σ sd)(i:Nat)(q:Rep K F d v):StF K H₀ F H (σ.set i (some v)) (sd.set i<|.val d):=
 ⟨S.base,S.sub,S.smp,S.slots.set (z:=.val d) ⟨v,rfl,q⟩ i,(iO i S.nd λl e=>by simp[gO] at e).1⟩
theorem StF.setO{l:BG}{xs:List V}(S:StF K H₀ F H σ sd)(i:Nat)(n:F l=none)(h:H l=some (.lst xs))(q:RepL K F ds xs)(no:l∉cA sd):StF K H₀ F H (σ.set i (some<|.ref l)) (sd.set i<|.own l ds):=
 ⟨S.base,S.sub,S.smp,S.slots.set (z:=.own l ds) ⟨rfl,n,xs,h,q⟩ i,(iO i S.nd λl' e=>by rw[aE.mp e];exact .inl no).1⟩
theorem jA(i:Nat){x:Str}{p:Pos}(hN:X.N.Nodup)(hi:X.N[i]? =some x)(hx:Loc X.env.scope x)(h:PEd X sd e (.val d))(hE:E.nx (sd.set i<|.val d))(hs:AX e (some<|.Name x p) pos.line X.env=pure false:=by rfl)
  (hf:X.fn x=true\/X.env.scope.names.lookup x=some .local:=by first|exact .inl rfl|exact .inr rfl|assumption):PSd1 X sd (.Assign [.Name x p] e pos) E:=.mk λσ F H S=>
 (nY hN hi hx eY hs hf).to ((h σ F H S).imp λv H' ⟨F',S',s',q⟩=>⟨_,F',S'.set i q,s',hE⟩)
theorem rX(i:Nat){x:Str}{p:Pos}(hN:X.N.Nodup)(hi:X.N[i]? =some x)(hx:Loc X.env.scope x)(h:PEd X sd e (.own ds))(hE:∀l,E.nx (sd.set i<|.own l ds))(hs:AX e (some<|.Name x p) pos.line X.env=pure false:=by rfl)
  (hf:X.fn x=true\/X.env.scope.names.lookup x=some .local:=by first|exact .inl rfl|exact .inr rfl|assumption):PSd1 X sd (.Assign [.Name x p] e pos) E:=.mk λσ F H S=>
 (nY hN hi hx eY hs hf).to ((h σ F H S).imp λv H' ⟨F',S',s',l,xs,e,n,q,rl,no⟩=>⟨_,F',by subst e;exact S'.setO i n q rl no,s',hE l⟩)
noncomputable def Le:List Slot->List Slot->Prop
 |[],[]=>True
 |x::xs,y::ys=>(y=.un\/x=y)/\Le xs ys
 |_,_=>False
theorem Le.refl:∀ (sd:List Slot),Le sd sd
 |[]=>trivial
 |_::xs=>⟨.inr rfl,Le.refl xs⟩
theorem Le.own:∀ {sd sd':List Slot},Le sd sd'->(cA sd').Sublist (cA sd)
 |[],[],_=>List.Sublist.refl _
 |[],_::_,h=>h.elim
 |_::_,[],h=>h.elim
 |x::xs,y::ys,h=>by
  obtain⟨h1,h2⟩:=h;have ih:=Le.own h2
  rcases h1 with rfl|rfl
  ·exact ih.trans<|List.sublist_append_right _ _
  ·exact List.Sublist.append (List.Sublist.refl _) ih
theorem Le.slots{K:aB}{F H:Hp}:∀ {sd sd':List Slot}{σ:St},Le sd sd'->SlotsOk K F H sd σ->SlotsOk K F H sd' σ
 |[],[],_,_,h=>h
 |[],_::_,_,h,_=>h.elim
 |_::_,[],_,h,_=>h.elim
 |x::xs,y::ys,σ,h,q=>by
  obtain⟨h1,h2⟩:=h;obtain⟨o,r,rfl,a,b⟩:=q;refine⟨o,r,rfl, ?_,Le.slots h2 b⟩
  rcases h1 with rfl|rfl
  ·trivial
  ·exact a
theorem StF.le{sd':List Slot}(S:StF K H₀ F H σ sd)(h:Le sd sd'):StF K H₀ F H σ sd':=⟨S.base,S.sub,S.smp,h.slots S.slots,S.nd.sublist h.own⟩
theorem aMS{sd':List Slot}{sts:List BK}(h:Le sd sd')(q:PSd X sd' sts E):PSd X sd sts E:=.mk λσ F H S=>q σ F H<|S.le h
theorem aCF{F₀:Hp}{sts:List BK}(s:Same F₀ F)(h:wSs X sts (lft X F E) σ H):wSs X sts (lft X F₀ E) σ H:=
 h.imp (λσ2 H2 ⟨sd2,F2,S2,s2,q2⟩=>⟨sd2,F2,S2,s.trans s2,q2⟩) (λv H2 q2=>q2) (λσ2 H2 ⟨sd2,F2,S2,s2,q2⟩=>⟨sd2,F2,S2,s.trans s2,q2⟩) λσ2 H2 ⟨sd2,F2,S2,s2,q2⟩=>⟨sd2,F2,S2,s.trans s2,q2⟩
theorem gE:∀ (sd:List Slot) (i:Nat),Le sd (sd.set i .un)
 |[],_=>trivial
 |_::xs,0=>⟨.inl rfl,Le.refl xs⟩
 |_::xs,i+1=>⟨.inr rfl,gE xs i⟩
theorem gX:∀ {sd:List Slot}{i:Nat}{l:BG}{z:Slot},(cA sd).Nodup->sd[i]? =some z->l∈gO z->l∉cA (sd.set i .un)
 |[],_,_,_,_,e,_=>by simp at e
 |y::zs,0,l,z,h,e,hl=>by
  have:y=z:=by simpa using e
  subst this;obtain⟨n1,n2,n3⟩:=bE.mp (show(gO y++cA zs).Nodup from h);exact λhm=>n3 l hl l hm rfl
 |y::zs,i+1,l,z,h,e,hl=>by
  have e':zs[i]? =some z:=by simpa using e
  obtain⟨n1,n2,n3⟩:=bE.mp (show(gO y++cA zs).Nodup from h);have ml:l∈cA zs:=dI.mpr ⟨_,aK e',hl⟩;intro hm
  rcases aM.mp (show l∈gO y++cA (zs.set i .un) from hm) with q|q
  ·exact n3 l q l ml rfl
  ·exact gX n2 e' hl q
theorem pB{i:Nat}{l:BG}(h:(cA sd).Nodup)(e:sd[i]? =some (.own l ds)):l∉cA (sd.set i .un):=gX h e<|bL l
theorem kE{i:Nat}{o:Option V}(h:σ[i]? =some o):σ.set i o=σ:=by obtain⟨hi,e⟩:=aD.mp h;rw[<-e];exact aCh hi
theorem iS(sd:List Slot)(i:Nat)(x y:Slot):(sd.set i x).set i y=sd.set i y:=by simp
theorem StF.wr{i:Nat}{l:BG}{ds':List D}{xs':List V}(S:StF K H₀ F H σ sd)(hs:sd[i]? =some (.own l ds))(rl:RepL K F ds' xs'):StF K H₀ F (upd H l<|.lst xs') σ (sd.set i<|.own l ds'):=by
 obtain⟨o,h1,h2,n,xs,q,_⟩:=S.slots.get hs;have no:=pB S.nd hs;have S0:=S.le<|gE sd i;refine⟨S.base,λb u e=> ?_,λb u e=> ?_, ?_, ?_⟩
 ·rw[bI<|cC e n];exact S.sub _ _ e
 ·by_cases h:b=l
  ·subst h;rw[bV] at e;cases e;trivial
  ·rw[bI h] at e;exact S.smp _ _ e
 ·have q1:SlotsOk K F (upd H l<|.lst xs') (sd.set i .un) σ:=S0.slots.mono (Same.refl _) λl' hl=>by
   obtain⟨n',ys,q',_⟩:=S0.slots.owns hl;have hne:l'≠l:=λz=>no<|z▸hl
   exact⟨n',λys e=>by rw[bI hne];exact e⟩
  have q2:=q1.set (z:=.own l ds') (o:=some<|.ref l) ⟨rfl,n,xs',bV,rl⟩ i;rw[iS,kE<|by rw[h1,h2]] at q2;exact q2
 ·have:=iO (z:=Slot.own l ds') i S0.nd λl' e=>by rw[aE.mp e];exact .inl no
  rw[iS] at this;exact this.1
theorem iB(i:Nat){l:BG}{sts:List BK}(hs:sd[i]? =some (.own l ds))(h:PSd X (sd.set i (.val<|.lst ds)) sts E):PSd X sd sts E:=.mk λσ F H S=>by obtain⟨o,h1,h2,n,xs,q,rl⟩:=S.slots.get hs;have S0:=S.le<|gE sd i;obtain⟨S1,s1⟩:=S0.freeze q n<|pB S.nd hs;have S2:=S1.set (d:=.lst ds) (v:=.ref l) i (by simp only[Rep];exact⟨l,xs,rfl,bV,rl.mono s1⟩);rw[iS,kE<|by rw[h1,h2]] at S2;exact aCF s1<|h σ _ H S2
theorem nI(i:Nat){x:Str}{p ap cp:Pos}{l:BG}(hs:sd[i]? =some (.own l ds))(hx:PE X (.Name x p) (jO i))(h:PEd X sd e (.val d))(hl:ds.length<=10000)(hE:E.nx (sd.set i (.own l<|ds++[d])))
  (hst:AC (e::[]) X.env=(false,eval e X.env)::AC [] X.env:=by rfl)
  (hm:PE X (.Call (.Attribute (.Name x p) "append" ap) [e] [] cp) (tBM X.K "list" oY (jO i)<|lO (wE X e) vJ):=by exact aCm jG lV lW sG (pv _) (dP eY pa_nil))
  (hsw:AX (.Call (.Attribute (.Name x p) "append" ap) [e] [] cp) none pos.line X.env=pure false:=by rfl):
  PSd1 X sd (.Expr (.Call (.Attribute (.Name x p) "append" ap) [e] [] cp) pos) E:=.mk λσ F H S=>
 (pE hm hsw).to (by
  obtain⟨o,h1,h2,n,xs,q,rl⟩:=S.slots.get hs;refine⟨.ref l,by rw[h1,h2],.inl ⟨rfl,xs,.of q⟩,(h σ F H S).imp λv H1 ⟨F1,S1,s1,q1⟩=> ?_⟩;obtain⟨o',h1',h2',n',xs',q',rl'⟩:=S1.slots.get hs
  exact⟨l,xs',v,rfl,rfl,q',by rw[rl'.len];exact fI hl,_,F1,S1.wr hs (rl'.app (.one q1)),s1,hE⟩)
theorem vA(i:Nat){x:Str}{p ap cp:Pos}{l:BG}{ds2:List D}(hs:sd[i]? =some (.own l ds))(hx:PE X (.Name x p) (jO i))(h:PEd X sd e (.val<|.lst ds2))(hl:ds.length+ds2.length<=10000)(hE:E.nx (sd.set i (.own l<|ds++ds2)))
  (hst:AC (e::[]) X.env=(false,eval e X.env)::AC [] X.env:=by rfl)
  (hm:PE X (.Call (.Attribute (.Name x p) "extend" ap) [e] [] cp) (tBM X.K "list" aDJ (jO i)<|lO (wE X e) vJ):=by exact aCm jG PySem.F.slot_list_extend PySem.F.type_list_extend aDL (pv _) (dP eY pa_nil))
  (hsw:AX (.Call (.Attribute (.Name x p) "extend" ap) [e] [] cp) none pos.line X.env=pure false:=by rfl):
  PSd1 X sd (.Expr (.Call (.Attribute (.Name x p) "extend" ap) [e] [] cp) pos) E:=.mk λσ F H S=>
 (pE hm hsw).to (by
  obtain⟨o,h1,h2,n,xs,q,rl⟩:=S.slots.get hs;refine⟨.ref l,by rw[h1,h2],.inl ⟨rfl,xs,.of q⟩,(h σ F H S).imp λv H1 ⟨F1,S1,s1,q1⟩=> ?_⟩;obtain⟨o',h1',h2',n',xs',q',rl'⟩:=S1.slots.get hs;simp only[ResOk,Rep] at q1;obtain⟨b,zs,rfl,hb,rb⟩:=q1
  exact⟨l,b,xs',zs,rfl,rfl,q',S1.sub _ _ hb,by rw[rl'.len,rb.len];exact dN (fI hl),_,F1,S1.wr hs (rl'.app rb),s1,hE⟩)
noncomputable def spC(K:aB)(n:Nat)(C:List D->R->Prop):Sp:=λvs H Q _=>vs.length=n/\Smp H/\∃ds r,RepL K H ds vs/\C ds r/\∀v H',aFp K H H' r v->Q v H'
noncomputable def spF(K:aB)(n:Nat)(C:List D->R->Prop):Sp:=λvs H Q _=>vs.length=n/\Smp H/\∃F ds r,Same F H/\RepL K F ds vs/\C ds r/\∀v F2 F3 H',Same F F2->Same F2 F3->Same F3 H'->Same H H'->Smp H'->(∀b o,H b=some o->F b=none->F3 b=none)->ResOk K F2 F3 [] r v->Q v H'
noncomputable def rO(F H:Hp):Hp:=λb=>match F b with
 |some o=>some o
 |none=>H b
theorem rP:Same F (rO F H):=λb o e=>by unfold rO;rw[e]
theorem rK{b:BG}(h:F b=none):rO F H b=H b:=by unfold rO;rw[h]
theorem FnOk.framed{P:AF}{w:AM}{mg:Str->Option BE}{base:BI}{k n:Nat}{f:BG}{fd:Aa}{ps:List Str}{C:List D->R->Prop}(G:FnOk P w K mg base CX0 k f fd ps (spC K n C)):FnOk P w K mg base CX0 k f fd ps (spF K n C):=by
 refine⟨λvs H Q E h=> ?_,λA outer s H args us vs Q E hr e0 hb rv h=> ?_⟩
 ·obtain⟨hl,sm,F,ds,r,sF,rl,c,_⟩:=h;exact G.len vs F (λ_ _=>True) E ⟨hl,sm.sub sF,ds,r,rl,c,λ_ _ _=>trivial⟩
 ·obtain⟨hl,sm,F,ds,r,sF,rl,c,q⟩:=h;have e1:aKo P w K mg base A outer s F:=⟨e0.frames,e0.mod,λb o e=>⟨(e0.bs b o e).1,sF.free (e0.bs b o e).2⟩,e0.bsz,e0.funs,λb hb=>sF.free<|e0.frf b hb,λb o e=>(e0.hok b o<|sF b o e).smp (sm b o<|sF b o e),e0.bare⟩;refine BA (G.run A outer s F args us vs (λv F3=>aFp K F F3 r v) E hr e1 hb rv ⟨hl,sm.sub sF,ds,r,rl,c,λv H' z=>z⟩) λrr s' hrr=> ?_
  cases rr with
  |error e=>exact hrr
  |ok fl=>
   cases fl with
   |ret u=>
    obtain⟨v,F3,ho,ha,un,hk,ru,F2,s1,s2,sm3,res⟩:=hrr
    have keepF:∀b o,H b=some o->F b=none->F3 b=none:=λb o e n=>by
     have lt:=e0.hok.lt e;cases g:s.heap.get? b with
     |none=>
      exfalso;have ob:=e0.hok b o e;have z:=sm b o e;cases o with
      |lst xs=>obtain⟨_,_,_,_,g'⟩:=ob;rw[g] at g';cases g'
      |tup xs=>obtain⟨_,_,_,oo,g',_⟩:=ob;rw[g] at g';cases g'
      |dK kvs=>obtain⟨_,_,_,_,oo,_,_,g',_⟩:=ob;rw[g] at g';cases g'
      |frz o2 u2=>obtain⟨g',_⟩:=ob;rw[g] at g';cases g'
      |ext φ=>obtain⟨_,⟨oo,g'⟩,_⟩:=ob;rw[g] at g';cases g'
      |_=>exact z
     |some ob=>exact un.free b ob g n<|by simp
    have keepO:∀b o,H b=some o->F b=none->∀ob,s.heap.get? b=some ob->s'.heap.get? b=some ob:=λb o e n ob g=>un.keep b ob g n (λhb=>by have:=e0.frf b hb;rw[e] at this;cases this)<|by simp
    have sH:Same H (rO F3 H):=λb o e=>by
     cases g:F b with
     |none=>rw[rK<|keepF b o e g];exact e
     |some o'=>have:=sF b o' g;rw[e] at this;cases this;exact rP _ _ (s2 _ _<|s1 _ _ g)
    have smM:Smp (rO F3 H):=λb o e=>by
     cases g:F3 b with
     |some o'=>have:=rP (H:=H) b o' g;rw[e] at this;cases this;exact sm3 b o g
     |none=>rw[rK g] at e;exact sm b o e
    refine⟨v,rO F3 H,ho,ha,⟨λb o g n hb hx=>un.keep b o g (sF.free n) hb hx,λb o g n hb hx=>un.slot b o g (sF.free n) hb hx,λb o g n hx=> ?_,un.there,λb xs e=>sH _ _ e,λb o u e=>sH _ _ e,λb ps e=>⟨#[],by rw[sH _ _ e];simp⟩⟩,λb o e=> ?_,ru, ?_⟩
    ·rw[rK<|un.free b o g (sF.free n) hx];exact n
    ·have z:=smM b o e;cases g:F3 b with
     |some o'=>have:=rP (H:=H) b o' g;rw[e] at this;cases this;exact(hk b o g).smp z
     |none=>
      rw[rK g] at e
      have n:F b=none:=by
       cases g2:F b with
       |none=>rfl
       |some o2=>rw[s2 _ _<|s1 _ _ g2] at g;cases g
      have st:=(e0.hok b o e).smp (F:=λ_=>none) z
      have:ObjOk P w (fun _=>none) s'.heap b o:=st.stay (fun b2 u hb2 gg=>by
       rcases hb2 with rfl|hb2
       ·exact keepO _ o e n u gg
       ·cases hb2) (λb2 hb2=>nomatch hb2) λb2 xs hb2=>nomatch hb2
      exact this.smp z
    ·exact q v F2 F3 (rO F3 H) s1 s2 rP sH smM keepF res
   |_=>exact hrr
structure bG(P:AF)(w:AM)(K:aB)(mg:Str->Option BE)(base:BI)(x:Str)(k n:Nat)(C:List D->R->Prop):Prop where
 ex:∃ (f:BG) (fd:Aa) (ps:List Str),mg x=some (.ref f)/\fG K (.ref f)=true/\Binds K fd ps []/\FnOk P w K mg base CX0 k f fd ps (spC K n C)
theorem aIP{x:Str}{p:Pos}{k n:Nat}{C:List D->R->Prop}(G:bG X.prog X.w X.K X.mg X.base x k n C)(hr:Room k X.A)(hg:Gl X x)(ha:PAd X sd (e::es) (ds.map R.val))(hc:C ds r)(hb:match r with | .bor _=>False|_=>True)(hn:ds.length=n)
  (hdb:(x==("__debug__":Str))=false:=by decide) (he:AC (e::es) X.env=(false,eval e X.env)::AC es X.env:=by rfl) (hpl:(Af pos<|AC es X.env).any (·.1)=false:=by rfl):
  PEd X sd (.Call (.Name x p) (e::es) [] pos) r:=.mk λσ F H S=>by
 obtain⟨f,fd,ps,hm,hk,bd,G⟩:=G.ex;refine(aDk (FnOk.framed G) hr hg hm hk bd .nil aKX zT hdb he hpl).to<|(ha σ F H S).imp λvs H1 ⟨F1,S1,s1,q1⟩=> ?_;have rl:=q1.vals;refine⟨by rw[cM,rl.len];exact hn,S1.smp,F1,ds,r,S1.sub,by rw[cM];exact rl,hc,λv F2 F3 H' s2 s3 s4 sH sm kp res=> ?_⟩
 have no:∀l,l∈cA sd->F2 l=none/\F3 l=none:=λl hl=>by obtain⟨n1,xs,q,_⟩:=S1.slots.owns hl;have n3:=kp l _ q n1;exact⟨s3.free n3,n3⟩
 refine⟨F2,⟨λb o e=>s2 _ _<|S1.base _ _ e,s3.trans s4,sm,S1.slots.mono s2 λl hl=>⟨(no l hl).1,λys e=>sH _ _ e⟩,S1.nd⟩,s1.trans s2, ?_⟩;cases r with
 |val d=>exact res
 |own ds'=>obtain⟨l,xs,e,n,q,rl',_⟩:=res;exact⟨l,xs,e,n,s4 _ _ q,rl',λhl=>by rw[(no l hl).2] at q;cases q⟩
 |pr d ls=>obtain⟨t,l,xs,y,e,f,g,n,q,rl',_⟩:=res;exact⟨t,l,xs,y,e,f,g,n,s4 _ _ q,rl',λhl=>by rw[(no l hl).2] at q;cases q⟩
 |ox G=>obtain⟨ls,nd,h,g⟩:=res;refine⟨ls,nd,λl hl=> ?_,λF' H'' sF k=>g F' H'' sF λl hl ob q=>k l hl ob<|s4 _ _ q⟩;obtain⟨n,⟨ob,q,w⟩,_⟩:=h l hl;exact⟨n,⟨ob,s4 _ _ q,w⟩,λhm=>by rw[(no l hm).2] at q;cases q⟩
 |bor ds'=>exact hb.elim
noncomputable def R.toD:R->D
 |.val d=>d
 |.own ds=>.lst ds
 |.bor ds=>.lst ds
 |.pr d ls=>.tup [d,.lst ls]
 |.ox _=>.non
noncomputable def init(n:Nat)(ds:List D):List Slot:=ds.map Slot.val++fJ (n-ds.length) .un
theorem aBc{K:aB}{F H:Hp}:∀n:Nat,SlotsOk K F H (fJ n .un) (fJ n none)
 |0=>rfl
 |n+1=>⟨none,fJ n none,rfl,trivial,aBc n⟩
theorem nD{K:aB}{F H:Hp}{m n:Nat}:∀ {ds:List D}{vs:List V},RepL K F ds vs->SlotsOk K F H (ds.map Slot.val++fJ n .un) (vs.map some++fJ n none)
 |[],vs,r=>by simp only[RepL] at r;subst r;exact aBc n
 |d::ds,vs,r=>by obtain⟨y,ys,rfl,a,rl⟩:=r.uncons;exact⟨some y,_,rfl,⟨y,rfl,a⟩,nD (m:=m) rl⟩
theorem mV(n:Nat):∀ds:List D,cA (ds.map Slot.val++fJ n .un)=[]
 |[]=>by
  induction n with
  |zero=>rfl
  |succ n ih=>exact ih
 |_::ds=>mV n ds
theorem aHf{P:AF}{w:AM}{mg:Str->Option BE}{base:BI}{x qual:Str}{f:BG}{fd:Aa}{N ps:List Str}{k:Nat}{C:List D->R->Prop}(F:Fun K x qual st f fd)(S:kA N ps (bD st))
  (body:∀ (cdv:BE) (A:BH) (outer:List Env) (s:BF) (H:Hp) (E:XK),Room k (A.deeper (Ar qual (bD st) s.heap.objs.size f cdv))→∀ds r,ds.length=ps.length→C ds r→
   PSd (jP CX0 P w K mg base N qual (bD st) f cdv A outer s H E).nox (init N.length ds) (eO st) {nx:=λ_=>r=.val .non,rt:=λr'=>r'=r}):FnOk P w K mg base CX0 (k+1) f fd ps (spC K ps.length C):=by
 refine F.ok S (λvs H Q E h=>h.1) λcdv A outer s H vs Q E hr h=> ?_
 obtain⟨hl,sm,ds,r,rl,c,q⟩:=h;have hds:ds.length=ps.length:=by rw[<-rl.len];exact hl
 refine⟨_,rV, ?_⟩;have hlen:N.length-vs.length=N.length-ds.length:=by rw[rl.len]
 have S0:StF K H H H (L2.start N vs) (init N.length ds):=by
  refine⟨Same.refl _,Same.refl _,sm, ?_, ?_⟩
  ·unfold L2.start init;rw[hlen];exact nD (m:=0) rl
  ·unfold init;rw[mV];exact cZ
 refine(body cdv A outer s H E hr ds r hds c (L2.start N vs) H H S0).imp ?_ ?_ (λ_ _ ⟨_,_,_,_,z⟩=>z) λ_ _ ⟨_,_,_,_,z⟩=>z
 ·rintro σ' H' ⟨sd',F',S',s',e⟩;have e:r=.val .non:=e;subst e;exact q .non H' ⟨F',S'.base,S'.sub,S'.smp,by simp only[ResOk,Rep]⟩
 ·rintro v H' ⟨r',ro,e⟩;have e:r'=r:=e;subst e;exact q v H' ro
theorem aMT{P:AF}{w:AM}{mg:Str->Option BE}{base:BI}{x qual:Str}{f:BG}{fd:Aa}{N ps:List Str}{k:Nat}{C:List D->R->Prop}(F:Fun K x qual st f fd)(S:kA N ps (bD st))
  (hm:mg x=some (.ref f)) (hb:∀ (kV doc pm:BE) (an:Option BG) (cdv ct:BE) (us:List BE),us.length=ps.length->bindArgs (dU x qual (iA st) (eO st) (bD st) .none kV doc pm an cdv ct) ⟨us,[]⟩=pure (ps.zip us))
  (body:∀ (cdv:BE) (A:BH) (outer:List Env) (s:BF) (H:Hp) (E:XK),Room k (A.deeper (Ar qual (bD st) s.heap.objs.size f cdv))→∀ds r,ds.length=ps.length→C ds r→
   PSd (jP CX0 P w K mg base N qual (bD st) f cdv A outer s H E).nox (init N.length ds) (eO st) {nx:=λ_=>r=.val .non,rt:=λr'=>r'=r}):bG P w K mg base x (k+1) ps.length C:=
 ⟨f,fd,ps,hm,F.kp,F.binds hb,aHf F S body⟩
variable {tg iter:Expr}
def ItD(K:aB)(F₁:Hp)(P:Hp->Hp->Prop)(J:It)(ds:List D):Prop:=∀ (F H:Hp),Same F₁ F->Same F H->Smp H->P F H->∀i,(i<ds.length->J.go i H)/\(ds.length<=i->J.stop i H)/\
 ∀x H' d,ds[i]? =some d->J.yld i H x H'->∃F',Same F F'/\Rep K F' d x/\∀H₀ σ sd,StF K H₀ F H σ sd->StF K H₀ F' H' σ sd
abbrev PT0:Hp->Hp->Prop:=λ_ _=>True
structure PId(X:Cx)(sd:List Slot)(P:Hp->Hp->Prop)(tg iter:Expr)(ds:List D):Prop where
 run:∀ (σ:St) (F H:Hp),StF X.K X.B₀ F H σ sd->
 wI X tg iter σ H λJ H1=>∃F1,StF X.K X.B₀ F1 H1 σ sd/\Same F F1/\ItD X.K F1 P J ds
instance {X:Cx}{sd:List Slot}{P:Hp→Hp→Prop}{tg iter:Expr}{ds:List D}:CoeFun (PId X sd P tg iter ds) (fun _=>∀ (σ:St) (F H:Hp),StF X.K X.B₀ F H σ sd→
 wI X tg iter σ H λJ H1=>∃F1,StF X.K X.B₀ F1 H1 σ sd/\Same F F1/\ItD X.K F1 P J ds):=⟨PId.run⟩
theorem _root_.L2.PI.to{wi:TI}{R:It->Hp->Prop}(h:PI X tg iter wi)(q:wi σ H R):wI X tg iter σ H R:=λpins s I=>h pins s σ H R I q
theorem fK(h:PEd X sd iter (.val<|.lst ds)):PId X sd PT0 tg iter ds:=.mk λσ F H S=>
 (aIT eY).to ((h σ F H S).imp fun v H1 ⟨F1,S1,s1,q1⟩=>by
  simp only[ResOk,Rep] at q1;obtain⟨l,xs,rfl,hl,rl⟩:=q1;refine⟨l,rfl,⟨xs,.of<|S1.sub _ _ hl⟩,F1,S1,s1,λF' H' sF sH sm _ i=> ?_⟩;have hl':=sH _ _<|sF _ _ hl;refine⟨λhi=>⟨xs,xs[i]'(by rw[rl.len];exact hi),.of hl',by simp[rl.len,hi]⟩,λhi=>⟨xs,.of hl',by rw[rl.len];exact hi⟩,λx H2 d hd y=> ?_⟩;obtain⟨rfl,y⟩:=y;obtain⟨v,hv,rv⟩:=rl.get hd;have:=y xs<|.of hl';rw[hv] at this;cases this
  exact⟨F',Same.refl _,rv.mono sF,λ_ _ _ S=>S⟩)
theorem mX(h:PEd X sd iter (.val<|.tup ds)):PId X sd PT0 tg iter ds:=.mk λσ F H S=>
 (aLF eY).to ((h σ F H S).imp fun v H1 ⟨F1,S1,s1,q1⟩=>by
  simp only[ResOk,Rep] at q1;obtain⟨l,xs,rfl,hl,rl⟩:=q1;refine⟨l,rfl,⟨xs,.of<|S1.sub _ _ hl⟩,F1,S1,s1,λF' H' sF sH sm _ i=> ?_⟩;have hl':=sH _ _<|sF _ _ hl;refine⟨λhi=>⟨xs,xs[i]'(by rw[rl.len];exact hi),.of hl',by simp[rl.len,hi]⟩,λhi=>⟨xs,.of hl',by rw[rl.len];exact hi⟩,λx H2 d hd y=> ?_⟩;obtain⟨rfl,y⟩:=y;obtain⟨v,hv,rv⟩:=rl.get hd;have:=y xs<|.of hl';rw[hv] at this;cases this
  exact⟨F',Same.refl _,rv.mono sF,λ_ _ _ S=>S⟩)
noncomputable def gR(lo:Int)(n:Nat):List D:=(bM n).map λ(k:Nat)=>D.int<|lo+(k:Int)
theorem gI(lo:Int)(n:Nat):(gR lo n).length=n:=by simp[gR]
theorem iK{lo:Int}{n i:Nat}(h:(gR lo n)[i]? =some d):i<n/\d=.int (lo+(i:Int)):=by
 unfold gR at h;rw[aS] at h
 by_cases hi:i<n
 ·rw[qE hi] at h;exact⟨hi,(bS.inj h).symm⟩
 ·rw[iD<|by simpa using hi] at h;cases h
theorem aEv{F₁:Hp}{lo:Int}{n:Nat}:ItD K F₁ PT0 (Itr lo n) (gR lo n):=λF H _ _ _ _ i=>by refine⟨λhi=>by rw[gI] at hi;exact hi,λhi=>by rw[gI] at hi;exact hi,λx H' d hd y=> ?_⟩;obtain⟨rfl,rfl⟩:=y;obtain⟨_,rfl⟩:=iK hd;exact⟨F,Same.refl _,by simp only[Rep],λ_ _ _ S=>S⟩
theorem iR{p:Pos}{n:Nat}(hg:Gl X "range")(hm:X.mg "range"=none)(h:PEd X sd a (.val<|.int (n:Int)))(hn:(n:Int)<2^62)(hs:AC [a] X.env=[(false,eval a X.env)]:=by rfl):PId X sd PT0 tg (.Call (.Name "range" p) [a] [] pos) (gR 0 n):=.mk λσ F H S=>
 (aEh hg hm zT hs).to ((aC h aO trivial hs σ F H S).imp fun vs H1 ⟨F1,S1,s1,q1⟩=>by
  cases q1 with
  |cons q1 q2=>
   cases q2;simp only[ResOk,Rep] at q1;subst q1
   exact⟨(n:Int),rfl,by omega,hn,F1,S1,s1,by rw[dX];exact aEv⟩)
structure PGd(X:Cx)(sd:List Slot)(tg:Expr)(d:D)(sd':List Slot):Prop where
 run:∀ (σ:St) (F H:Hp) (v:V),StF X.K X.B₀ F H σ sd->Rep X.K F d v->wG X tg v σ H λσ' H'=>∃F',StF X.K X.B₀ F' H' σ' sd'/\Same F F'
instance {X:Cx}{sd:List Slot}{tg:Expr}{d:D}{sd':List Slot}:CoeFun (PGd X sd tg d sd') (λ_=>∀ (σ:St) (F H:Hp) (v:V),StF X.K X.B₀ F H σ sd->Rep X.K F d v->wG X tg v σ H λσ' H'=>∃F',StF X.K X.B₀ F' H' σ' sd'/\Same F F'):=⟨PGd.run⟩
theorem _root_.L2.PG.to{t:TG}{Q:St->Hp->Prop}(h:PG X tg t)(q:t v σ H Q):wG X tg v σ H Q:=λpins s u I r=>h pins s σ H v u Q I r q
theorem aGl(j:Nat)(h:PG X tg (aCj j)):PGd X sd tg d (sd.set j<|.val d):=.mk λσ F H v S q=>h.to ⟨F,S.set j q,Same.refl _⟩
noncomputable def gNs:List Nat->TGs
 |[]=>aOt
 |j::js=>aKQ (aCj j)<|gNs js
noncomputable def aCp:List Slot->List Nat->List D->List Slot
 |sd,j::js,d::ds=>aCp (sd.set j<|.val d) js ds
 |sd,_,_=>sd
theorem aGS{K:aB}{H₀ F H:Hp}{Q:St->Hp->Prop}:∀ {js:List Nat}{ds:List D}{vs:List V}{σ:St}{sd:List Slot},js.length=ds.length->RepL K F ds vs->StF K H₀ F H σ sd->(∀σ',StF K H₀ F H σ' (aCp sd js ds)->Q σ' H)->gNs js vs σ H Q
 |[],[],vs,σ,sd,_,r,S,k=>by simp only[RepL] at r;exact⟨r,k σ S⟩
 |j::js,d::ds,vs,σ,sd,hl,r,S,k=>by obtain⟨y,ys,rfl,q,rl⟩:=r.uncons;exact⟨y,ys,rfl,aGS (by simpa using hl) rl (S.set j q) k⟩
 |[],_::_,_,_,_,hl,_,_,_=>by simp at hl
 |_::_,[],_,_,_,hl,_,_,_=>by simp at hl
theorem jX{k:Nat}{js:List Nat}(hc:X.calm=true)(h:PGs X es (gNs js))(hl:js.length=ds.length)(hn:(assignEach es X.env).length=ds.length)(hst:(assignEach es X.env).findIdx? (·.1)=none:=by rfl):PGd X sd (.Tuple es k pos) (.tup ds) (aCp sd js ds):=.mk λσ F H v S q=>
 (aMm hc h hn hst).to (by
  simp only[Rep] at q;obtain⟨a,xs,rfl,ha,rl⟩:=q
  exact⟨a,xs,rfl,.of (S.sub _ _ ha),rl.len,aGS hl rl S λσ' S'=>⟨F,S',Same.refl _⟩⟩)
theorem uH{body:List BK}{P:Hp->Hp->Prop}(Sd Td:Nat->List Slot)(hi:PId X sd P tg iter ds)(h0:Le sd (Sd 0))(hg:∀k d,ds[k]? =some d->PGd X (Sd k) tg d (Td k))
  (hb:∀k d,ds[k]? =some d->PSd X (Td k) body {E with nx:=λsd'=>Le sd' (Sd<|k+1),ct:=λsd'=>Le sd' (Sd<|k+1),bk:=E.nx}) (hE:E.nx (Sd ds.length)) (hP:∀k σ F H,StF X.K X.B₀ F H σ (Sd k)->P F H:=by intros;trivial)
  (hc:X.calm=true:=by rfl) (hp:PassesOwn (AH X.prog X.w) X.A X.env X.xe:=by exact PassesOwn.never) (hs:∀x,Ao iter X.env x=pure x:=by intro _;rfl):PSd1 X sd (.For tg iter body [] pos) E:=.mk λσ F H S=>
 (aGL hp hc aOL aOM rV hs).to (by
  intro pins s I;refine thn (hi σ F H S pins s I) λv s1 h1=>thn h1 λitv s2 h2=> ?_
  obtain⟨it,fp,tn,J,H2,e,I2,T,st2,f2,F1,S1,s1',itd⟩:=h2;refine⟨it,fp,tn,J,H2,e,I2,T,st2,f2, ?_⟩;refine⟨λi m σ' H'=>m=ds.length-i/\i<=ds.length/\∃F',StF X.K X.B₀ F' H' σ' (Sd i)/\Same F1 F',⟨ds.length,by simp,bP _,F1,S1.le h0,Same.refl _⟩, ?_⟩;rintro i m σ' H' ⟨rfl,hil,F',S',s'⟩;obtain⟨g1,g2,g3⟩:=itd F' H' s' S'.sub S'.smp (hP _ _ _ _ S') i
  by_cases hlt:i<ds.length
  ·refine .inr ⟨g1 hlt,λσ2 H2=>∃F2,StF X.K X.B₀ F2 H2 σ2 (Sd<|i+1)/\Same F1 F2,λσ2 H2 ⟨F2,S2,s2⟩=>⟨ds.length-(i+1),by omega,rfl,hlt,F2,S2,s2⟩,λx H2 y=> ?_⟩;have hd:ds[i]? =some ds[i]:=by simp[hlt]
   obtain⟨F2,s2,rp,up⟩:=g3 x H2 ds[i] hd y;refine(hg i _ hd σ' F2 H2 x (up _ _ _ S') rp).imp λσ3 H3 ⟨F3,S3,s3⟩=> ?_
   have base:Same F1 F3:=(s'.trans s2).trans s3;refine(hb i _ hd σ3 F3 H3 S3).imp ?_ ?_ ?_ ?_
   ·rintro σ4 H4 ⟨sd4,F4,S4,s4,le⟩;exact⟨F4,S4.le le,base.trans s4⟩
   ·exact λv H4 q=>q
   ·rintro σ4 H4 ⟨sd4,F4,S4,s4,q⟩;exact⟨sd4,F4,S4,(s1'.trans base).trans s4,q⟩
   ·rintro σ4 H4 ⟨sd4,F4,S4,s4,le⟩;exact⟨F4,S4.le le,base.trans s4⟩
  ·have e:i=ds.length:=by omega
   subst e
   exact .inl ⟨g2 (aP _),Sd ds.length,F',S',s1'.trans s',hE⟩)
theorem Inv.retrack{pins:List (BG×BJ)}{σ:St}{H F:Hp}{s s':BF}(I0:Inv X pins σ H s):∀ (ls:List BG),ls.Nodup->(∀l∈ls,F l=none/\(∃xs,H l=some xs/\Wr l xs)/\∀o,s.heap.get? l=some o->s'.heap.get? l=some o)->Inv X pins σ F s'->Inv X pins σ (λb=>if b∈ls then H b else F b) s'
 |[],_,_,I=>by simpa using I
 |l::ls,nd,h,I=>by
  obtain⟨nl,nd'⟩:=bH.mp nd;have J:=Inv.retrack I0 ls nd' (λl' hl=>h l'<|aF _ hl) I;obtain⟨n,⟨xs,hx,wx⟩,kp⟩:=h l aG
  have e:(λb=>if b∈l::ls then H b else F b)=upd (λb=>if b∈ls then H b else F b) l xs:=by
   funext b;unfold upd
   by_cases hb:b=l
   ·subst hb;simp[hx]
   ·simp[hb]
  rw[e];have n':(λb=>if b∈ls then H b else F b) l=none:=by simp[nl,n]
  have ob:=I0.hok l _ hx;clear e;generalize (λb=>if b∈ls then H b else F b)=G at J n' ⊢;refine⟨J.ok,J.os,J.bare,⟨J.base.keep,J.base.slot,λb u g n0 hx0=> ?_,J.base.there,λb ys g=> ?_,λb u ys g=> ?_,λb ps g=> ?_⟩,J.loc,J.cell, ?_,λx c g=> ?_,λp hp=> ?_,J.hok.track n' ?_,J.len⟩
  ·have hb:b≠l:=λq=>by subst q;have:=I0.base.free b u g n0 hx0;rw[hx] at this;cases this
   rw[bI hb];exact J.base.free b u g n0 hx0
  ·have q:=J.base.tups b ys g;rw[bI<|cC q n'];exact q
  ·have q:=J.base.frzs b u ys g;rw[bI<|cC q n'];exact q
  ·obtain⟨m,q⟩:=J.base.tbls b ps g;exact⟨m,by rw[bI<|cC q n'];exact q⟩
  ·rw[bI λq=>by have:=I0.free;rw[q,hx] at this;cases this];exact J.free
  ·rw[bI λq=>by have:=I0.freeC x c g;rw[q,hx] at this;cases this];exact J.freeC x c g
  ·obtain⟨g,n0,rr⟩:=J.pin p hp;refine⟨g, ?_,rr⟩;rw[bI λq=>by have:=(I0.pin p hp).2.1;rw[q,hx] at this;cases this];exact n0
  ·cases xs with
   |lst xs=>obtain⟨z,its,nn,rv,ho⟩:=ob;exact⟨z,its,nn,rv,kp _ ho⟩
   |dK kvs=>obtain⟨z,y,vs,r,o,es,ep,e,c⟩:=ob;exact⟨z,y,vs,r,o,es,ep,kp _ e,c⟩
   |ext φ=>obtain⟨h1,⟨o1,h2⟩,h3⟩:=ob;exact⟨h3 _ _ h1 kp,⟨o1,kp _ h2⟩,h3⟩
   |_=>exact wx.elim
theorem aMP{P:AF}{w:AM}{h:BI}{l:BG}{xs:HO}(wx:Wr l xs)(q:H l=some xs)(ok:ObjOk P w H h l xs):∃ys o,H l=some ys/\Wr l ys/\h.get? l=some o/\∀v,o.data≠ .cell v:=by
 cases xs with
 |lst xs=>obtain⟨_,its,nn,_,ho⟩:=ok;exact⟨_,_,q,trivial,ho,λv z=>by cases z⟩
 |dK kvs=>obtain⟨_,_,_,_,o,es,ep,e,_,d,_⟩:=ok;exact⟨_,_,q,trivial,e,λv z=>by rw[d] at z;cases z⟩
 |ext φ=>obtain⟨o,e,n⟩:=id wx;subst e;exact⟨_,o,q,wx,ok.1,n⟩
 |_=>exact wx.elim
theorem aGk(S:StF X.K X.B₀ F H σ sd)(hr:match r with | .bor _=>False|_=>True)(h:wE X e σ F λv F3=>aFp X.K F F3 r v):wE X e σ H λv H'=>∃F',StF X.K X.B₀ F' H' σ sd/\Same F F'/\ResOk X.K F' H' sd r v:=λpins s I=>by
 have I1:Inv X pins σ F s:=I.less S.sub S.base<|S.smp.sub S.sub
 have ob:∀l∈cA sd,∃xs o,H l=some xs/\Wr l xs/\s.heap.get? l=some o/\∀v,o.data≠ .cell v:=λl hl=>by obtain⟨n,xs,q,wx⟩:=S.slots.owns hl;exact aMP wx q<|I.hok l _ q
 have I2:Inv X (pins++mZ (cA sd) s.heap) σ F s:=I1.pins_of λp hp=>(aM.mp hp).elim (λz=>I1.pin p<|aI _ z) λz=>by
  obtain⟨hb,g⟩:=sI z;obtain⟨xs,o,q,_,ho,hc⟩:=ob p.1 hb;rw[g] at ho;cases ho;refine⟨g,(S.slots.owns hb).1,λy=> ?_,λy=> ?_,hc⟩
  ·have:=I.free;rw[<-y,q] at this;cases this
  ·obtain⟨_,o',ho',_⟩:=I.ok.funs.mem y;have:=I.base.free p.1 o' ho' (I.ok.frf p.1 y) λz=>I.ok.exfs p.1 z y
   rw[q] at this;cases this
 refine thn (h _ s I2) λu s' ⟨v,F3,I3,rv,F2,s1,s2,sm3,res⟩=> ?_
 have kp:∀l∈cA sd,F3 l=none/\(∃xs,H l=some xs/\Wr l xs)/\∀o,s.heap.get? l=some o->s'.heap.get? l=some o:=λl hl=>by obtain⟨xs,o,q,wx,ho,_⟩:=ob l hl;have:=I3.pin (l,o)<|aI _ (aI _<|jC hl ho);exact⟨this.2.1,⟨xs,q,wx⟩,λo' g=>by rw[ho] at g;cases g;exact this.1⟩
 have I4:=Inv.retrack I (cA sd) S.nd kp I3.unpinned;refine⟨v,_,I4,rv,F2,⟨λb o g=>s1 _ _<|S.base _ _ g,λb o g=> ?_,λb o g=> ?_,S.slots.mono s1 λl hl=>⟨s2.free (kp l hl).1,λxs g=>by simpa[hl] using g⟩,S.nd⟩,s1, ?_⟩
 ·have g3:=s2 _ _ g;have:b∉cA sd:=λhb=>by rw[(kp b hb).1] at g3;cases g3
  simp[this,g3]
 ·by_cases hb:b∈cA sd
  ·simp[hb] at g;exact S.smp _ _ g
  ·simp[hb] at g;exact sm3 _ _ g
 ·cases r with
  |val d=>exact res
  |own ds'=>
   obtain⟨l,xs,e,n,q,rl',_⟩:=res;have:l∉cA sd:=λhl=>by rw[(kp l hl).1] at q;cases q
   exact⟨l,xs,e,n,by simp[this,q],rl',this⟩
  |pr d ls=>
   obtain⟨t,l,xs,y,e,f,g,n,q,rl',_⟩:=res;have:l∉cA sd:=λhl=>by rw[(kp l hl).1] at q;cases q
   exact⟨t,l,xs,y,e,f,g,n,by simp[this,q],rl',this⟩
  |ox G=>
   obtain⟨ls,nd,h,g⟩:=res
   have no:∀l∈ls,l∉cA sd:=λl hl hm=>by obtain⟨n,⟨ob,q,w⟩,_⟩:=h l hl;rw[(kp l hm).1] at q;cases q
   refine⟨ls,nd,λl hl=> ?_,λF' H' sF k=>g F' H' sF λl hl ob q=>k l hl ob<|by simp[no l hl,q]⟩;obtain⟨n,⟨ob,q,w⟩,_⟩:=h l hl;exact⟨n,⟨ob,by simp[no l hl,q],w⟩,no l hl⟩
  |bor ds'=>exact hr.elim
noncomputable def aKE:Option Slot->Slot
 |some (.val d)=>.val d
 |some (.ox [] G)=>.ox [] G
 |_=>.un
noncomputable def lI(cap:List (Option Nat))(sd:List Slot):List Slot:=cap.map λo=>match o with
 |none=>.un
 |some k=>aKE sd[k]?
theorem zU{K:aB}{F H F' H':Hp}{σ:St}(h:SlotsOk K F H sd σ)(s:Same F F'):∀cap:List (Option Nat),SlotsOk K F' H' (lI cap sd) (vD cap σ)
 |[]=>rfl
 |o::cap=>by
  refine⟨_,_,rfl, ?_,zU h s cap⟩;cases o with
  |none=>trivial
  |some k=>
   show gQ K F' H' (aKE sd[k]?) _;cases q:sd[k]? with
   |none=>trivial
   |some z=>
    cases z with
    |un=>trivial
    |own l ds=>trivial
    |od l ks ds=>trivial
    |ox ls G=>
     cases ls with
     |cons a ls=>trivial
     |nil=>obtain⟨o,h1,v,h2,h3,h4⟩:=h.get q;subst h2;exact⟨v,by simp[h1],λl hl=>(nomatch hl),λF2 H2 s2 _=>h4 F2 H2 (s.trans s2) λl hl=>(nomatch hl)⟩
    |gh d G=>trivial
    |val d=>obtain⟨o,h1,v,h2,rv⟩:=h.get q;subst h2;exact⟨v,by simp[h1],rv.mono s⟩
theorem pV:∀ (cap:List (Option Nat)) (sd:List Slot),cA (lI cap sd)=[]
 |[],_=>rfl
 |o::cap,sd=>by
  have ih:=pV cap sd;cases o with
  |none=>exact ih
  |some k=>
   show cA (aKE sd[k]? ::lI cap sd)=[];cases q:sd[k]? with
   |none=>exact ih
   |some z=>
    cases z with
    |ox ls G=>cases ls<;>exact ih
    |_=>exact ih
noncomputable def unS:Slot->Slot
 |.own _ _=>.un
 |.od _ _ _=>.un
 |.ox [] G=>.ox [] G
 |.ox _ _=>.un
 |z=>z
noncomputable def unO(sd:List Slot):List Slot:=sd.map unS
theorem jD:∀sd:List Slot,cA (unO sd)=[]
 |[]=>rfl
 |.un::r=>jD r
 |.val _::r=>jD r
 |.gh _ _::r=>jD r
 |.own _ _::r=>jD r
 |.od _ _ _::r=>jD r
 |.ox [] _::r=>jD r
 |.ox (_::_) _::r=>jD r
theorem aFK(cap:List (Option Nat))(sd:List Slot):lI cap (unO sd)=lI cap sd:=by
 unfold lI;refine bW λo _=> ?_
 cases o with
 |none=>rfl
 |some k=>
  show aKE (unO sd)[k]? =aKE sd[k]?;unfold unO;rw[aS];cases q:sd[k]? with
  |none=>rfl
  |some z=>
   cases z with
   |ox ls G=>cases ls<;>rfl
   |_=>rfl
theorem yJ{K:aB}{F H H':Hp}:∀ {sd:List Slot}{σ:St},SlotsOk K F H sd σ->SlotsOk K F H' (unO sd) σ
 |[],_,h=>h
 |z::zs,σ,h=>by
  obtain⟨o,r,rfl,a,b⟩:=h;refine⟨o,r,rfl, ?_,yJ b⟩;cases z with
  |un=>trivial
  |val d=>exact a
  |gh d G=>exact a
  |od l ks ds=>trivial
  |ox ls G=>
   cases ls with
   |cons a ls=>trivial
   |nil=>obtain⟨v,h2,h3,h4⟩:=a;exact⟨v,h2,λl hl=>(nomatch hl),λF2 H2 s2 _=>h4 F2 H2 s2 λl hl=>(nomatch hl)⟩
  |own l ds=>trivial
theorem lZ{i:Nat}(p:D->Bool)(h:ds[i]? =some d):(ds.take<|i+1).filter p=(ds.take i).filter p++(if p d then[d] else[]):=by rw[eM,h,sD];cases hp:p d<;>simp[hp]
theorem jL{elt:Expr}{ifs:List Expr}{scope:Scope}{N M:List Str}{cap:List (Option Nat)}{sc:Scope}{Tb:D->List Slot}(p:D->Bool)(f:D->D)
  (hi:PId X (unO sd) PT0 tg iter ds) (hl:ds.length<=10000)
  (hsc:X.env.scope=sc) (hcn:mE scope sc=true) (hM:X.N=M) (hcap:lF N M scope sc cap=true) (hk:scope.kind=.function)
  (hg:∀cl C fp s H d,d∈ds->PGd (cxB X N scope cl C fp s H) (lI cap sd) tg d (Tb d))
  (hle:∀d,d∈ds->Le (Tb d) (lI cap sd))
  (ht:∀cl C fp s H d,d∈ds->(ifs=[]/\p d=true)\/∃c,ifs=[c]/\PTd (cxB X N scope cl C fp s H) (Tb d) c (p d))
  (he:∀cl C fp s H d,d∈ds->p d=true->PEd (cxB X N scope cl C fp s H) (Tb d) elt (.val<|f d))
  (hc:X.calm=true:=by rfl) (hs:∀x,Ao iter X.env x=pure x:=by intro _;rfl):
  PEd X sd (.ListComp elt [⟨tg,iter,ifs,0⟩] scope pos) (.own<|(ds.filter p).map f):=.mk λσ F H S=>by
 refine aGk S trivial ?_;have S0:StF X.K X.B₀ F F σ (unO sd):=⟨S.base,Same.refl _,S.smp.sub S.sub,yJ S.slots,by rw[jD];exact cZ⟩;intro pins s I
 have nm:∀y∈scope.names,(y.2=NameKind.free->sc.names.lookup y.1=some NameKind.cell)/\(y.2=NameKind.local->scope.names.lookup y.1=some NameKind.local):=λy hy=>by have q:=cR.mp hcn y hy;simp only[bC,oU,mH,beq_eq_false_iff_ne,ne_eq,beq_iff_eq] at q;exact⟨λe=>q.1.1.resolve_left λz=>z e,λe=>q.2.resolve_left λz=>z e⟩
 have fre:∀y∈scope.names,y.2=.free->∃c,X.env.cells.lookup y.1=some c:=λy hy e=>I.ok.has y.1 (.inl<|by show X.env.scope.names.lookup y.1=_;rw[hsc];exact(nm y hy).1 e)
 rw[eval_ListComp];refine wpAny_comprehension_free (use:=none) rfl hs (vE fre) hk (λy hy=>(nm y hy).2) ?_;refine thn (hi σ F F S0 pins s I) λv s1 h1=>thn h1 λitv s2 h2=> ?_
 obtain⟨it,fp,tn,J,H2,e,I2,T,st2,f2,F1,S1,s1',itd⟩:=h2;subst e
 have S1b:StF X.K H2 H2 H2 (vD cap σ) (lI cap sd):=⟨Same.refl _,Same.refl _,S1.smp,by
  have q:=zU (sd:=unO sd) (H':=H2) S1.slots S1.sub cap;rw[aFK] at q
  exact q,by rw[pV];exact cZ⟩
 refine aAZ (N:=N) (cap:=cap) (g:=λv σ2 H3 Q=>∀cl C,wG (cxB X N scope cl C fp s2 H2) tg v σ2 H3 Q) (tt:=λσ2 H3 Q=>∀cl C,aNg (cxB X N scope cl C fp s2 H2) ifs σ2 H3 Q) (te:=λσ2 H3 Q=>∀cl C,wE (cxB X N scope cl C fp s2 H2) elt σ2 H3 Q)
  hc hsc hcn (by rw[hM];exact hcap) hk I2 T st2 f2 (λcl C pi s3 σ3 H3 v u Q I3 ru q=>q cl C pi s3 u I3 ru) (λcl C pi s3 σ3 H3 Q I3 q=>q cl C pi s3 I3) (λcl C pi s3 σ3 H3 Q I3 q=>q cl C pi s3 I3)
  (λi m ys σb H3=>m=ds.length-i/\i<=ds.length/\∃Fb,StF X.K H2 Fb H3 σb (lI cap sd)/\RepL X.K Fb (((ds.take i).filter p).map f) ys) ds.length
  ⟨by simp,bP _,H2,S1b,by simpa using RepL.nil⟩ _ ?_
 rintro i m ys σb H3 ⟨rfl,hil,Fb,Sb,rl⟩;have sF1:Same F1 Fb:=λb o g=>Sb.base _ _<|S1.sub _ _ g
 obtain⟨g1,g2,g3⟩:=itd Fb H3 sF1 Sb.sub Sb.smp trivial i
 by_cases hlt:i<ds.length
 ·have hd:ds[i]? =some ds[i]:=by simp[hlt]
  have hm:ds[i]∈ds:=fZ hlt
  have ylen:ys.length<=i:=by rw[rl.len,aA];exact cG (pH _ _) (by simp;omega)
  refine .inr ⟨g1 hlt,fI<|by omega,λys' σ' H'=>∃Fb',StF X.K H2 Fb' H' σ' (lI cap sd)/\RepL X.K Fb' (((ds.take<|i+1).filter p).map f) ys',λys' σ' H' ⟨Fb',Sb',rl'⟩=>⟨ds.length-(i+1),by omega,rfl,hlt,Fb',Sb',rl'⟩,λx H4 y cl C=> ?_⟩;obtain⟨F4,s4,rp,up⟩:=g3 x H4 ds[i] hd y;refine(hg cl C fp s2 H2 _ hm σb F4 H4 x (up _ _ _ Sb) rp).imp λσ5 H5 ⟨F5,S5,s5⟩ cl2 C2=> ?_
  have rl5:=rl.mono<|s4.trans s5
  have fin:∀ (b:Bool) (H6:Hp) (F6:Hp),b=p ds[i]->StF X.K H2 F6 H6 σ5 (Tb ds[i])->Same F5 F6->if b=true then(∀cl C,wE (cxB X N scope cl C fp s2 H2) elt σ5 H6 λv H5=>∃Fb',StF X.K H2 Fb' H5 σ5 (lI cap sd)/\RepL X.K Fb' (((ds.take<|i+1).filter p).map f) (ys++[v])) else ∃Fb',StF X.K H2 Fb' H6 σ5 (lI cap sd)/\RepL X.K Fb' (((ds.take<|i+1).filter p).map f) ys:=λb H6 F6 eb S6 s6=>by
   rw[lZ p hd,<-eb];cases b with
   |false=>exact aGF ⟨F6,S6.le<|hle _ hm,by simpa using rl5.mono s6⟩
   |true=>
    refine aGG λcl3 C3=>(he cl3 C3 fp s2 H2 _ hm eb.symm σ5 F6 H6 S6).imp λv H7 ⟨F7,S7,s7,q7⟩=>⟨F7,S7.le<|hle _ hm, ?_⟩
    simp only[if_true,aW,bA,dL];exact((rl5.mono s6).mono s7).app<|.one q7
  rcases ht cl2 C2 fp s2 H2 _ hm with⟨e1,e2⟩|⟨c,e1,q⟩
  ·subst e1;exact aBm (fin true H5 F5 e2.symm S5<|Same.refl _)
  ·subst e1;exact aBg<|(q σ5 F5 H5 S5).imp λb H6 ⟨eb,F6,S6,s6⟩=>fin b H6 F6 eb S6 s6
 ·have e:i=ds.length:=by omega
  subst e;refine .inl ⟨g2<|aP _,λD C s' hD hC hDC h0 hL hcc hpp hst ⟨m',ns'⟩ J'=>⟨m',ns',λh' sb=> ?_⟩⟩;have J2:Inv X pins σ (upd H3 D<|.lst ys) {s' with heap:=h',toks:=s'.toks}:=J'.turned (it:=C) (λb o hb g=>sb.extBut b o hb g) (by rw[bI<|Ne.symm hDC];exact hC) hL (.inr h0) hcc hpp;refine⟨.ref D,_,J2,rfl,Fb,λb o g=>Sb.base _ _ (S1.sub _ _<|s1' _ _ g),λb o g=> ?_,λb o g=> ?_,D,ys,rfl,Sb.sub.free hD,bV, ?_,by simp[cA]⟩
  ·have g3:=Sb.sub _ _ g;rw[bI<|cC g3 hD];exact g3
  ·by_cases hb:b=D
   ·subst hb;rw[bV] at g;cases g;trivial
   ·rw[bI hb] at g;exact Sb.smp _ _ g
  ·simpa using rl
noncomputable def isIB:D->Bool
 |.int _=>true
 |.bl _=>true
 |_=>false
noncomputable def isB:D->Bool
 |.bl _=>true
 |_=>false
noncomputable def isT:D->Bool
 |.tup _=>true
 |_=>false
noncomputable def isL:D->Bool
 |.lst _=>true
 |.scr _=>true
 |_=>false
theorem aIx(K:aB)(d:D):bR K (tyD d) (.type "int")=some (isIB d):=by cases d<;>with_unfolding_all rfl
theorem aFO(K:aB)(d:D):bR K (tyD d) (.type "bool")=some (isB d):=by cases d<;>with_unfolding_all rfl
theorem yK(K:aB)(d:D):bR K (tyD d) (.type "tuple")=some (isT d):=by cases d<;>with_unfolding_all rfl
theorem PEd.cast{r':R}(h:PEd X sd e r)(q:r=r'):PEd X sd e r':=q▸h
theorem fA{k:Bool}{x o:List BK}(h:PTd X sd c k)(hk:k=false)(h2:PSd X sd o E):PSd1 X sd (.If c x o pos) E:=gJ h (λe=>by rw[hk] at e;cases e) λ_=>h2
theorem hX{k:Bool}{x o:List BK}(h:PTd X sd c k)(hk:k=true)(h2:PSd X sd x E):PSd1 X sd (.If c x o pos) E:=gJ h (λ_=>h2) λe=>by rw[hk] at e;cases e
theorem aAk{i:Int}(ha:PEd X sd a (.bor ds))(hb:PEd X sd b (.val<|.int i))(h0:0<=i)(hd:ds[i.toNat]? =some d)(hs:mQ b):PEd X sd (.Subscript a b pos) (.val d):=by
 have e:i=(i.toNat:Int):=by omega
 rw[e] at hb;exact jU ha hb hd hs
theorem nE{i:Int}(ha:PEd X sd a (.val<|.tup ds))(hb:PEd X sd b (.val<|.int i))(h0:0<=i)(hd:ds[i.toNat]? =some d)(hs:mQ b):PEd X sd (.Subscript a b pos) (.val d):=by
 have e:i=(i.toNat:Int):=by omega
 rw[e] at hb;exact zM ha hb hd hs
theorem vQ{i:Int}(h:i.natAbs<2^250):Builtin.Int.intBits i<=2^20:=by
 unfold Builtin.Int.intBits
 split
 ·exact bP _
 ·rename_i hz
  have hne:i.natAbs≠0:=by
   intro z;apply hz;have:i=0:=by omega
   subst this;rfl
  have:=(Nat.log2_lt hne).mpr h;have e:(250:Nat)+1<=2^20:=by decide
  omega
theorem lA{i j:Int}(h1:i.natAbs<2^250)(h2:j.natAbs<2^250):IntMulOk i j:=.of_bits (vQ h1)<|vQ h2
noncomputable def most:Int:=1000*10^64
noncomputable def bO:List (Int×Int):=[(2,2),(1,1),(1,2),(2,1),(1,3),(3,1),(2,3),(3,2),(1,4),(4,1),(1,5),(5,1),(1,6),(6,1)]
noncomputable def cK(p:Int×Int):D:=.tup [.int p.1,.int p.2]
def aMX:List D->R->Prop:=λds r=>∃ns:List Int,ds=[.scr ns]/\ns.length<=63/\r=.val (.bl true)
theorem aAN{ns:List Int}{k:Nat}(h:(ns.map D.int)[k]? =some d):k<ns.length/\d=.int (ns.getD k 0):=by
 rw[aS] at h;cases e:ns[k]? with
 |none=>rw[e] at h;cases h
 |some z=>rw[e] at h;refine⟨(aD.mp e).1, ?_⟩;rw[<-bS.inj h,cB,e];rfl
theorem getD_mem{α:Type}{l:List α}{i:Nat}{d:α}(h:i<l.length):l.getD i d∈l:=by
 have e:l.getD i d=l[i]:=by simp[cB,h]
 rw[e];exact fZ h
theorem aFA(h:aNb H):Smp H:=λb o e=>by
 rcases h b with z|⟨o',xs,z⟩
 ·rw[z] at e;cases e
 ·rw[z] at e;cases e;trivial
theorem walkD{l:PySem.W.OpenLaw}{k:Nat}{x:Str}{q:AF}{loose:List Str}{XP:(Str->Option BE)->BI->Prop}{YP:AM->BI->Prop}{d:DefRec}{K:Params->aB}(hn:l.most=some 63)(hdf:d.params.defaults=[])
  (hr:Room k callerA) (hY:∀ (w:AM) (h:BI),YP w h->(K w.params).In h)
  (F:∀ (w:AM) (mg:Str→Option BE) (fa:BG) (h:BI),(K w.params).In h→h.Ns AR mg→mg d.name=some (.ref fa)→
   ∃fd:Aa,(∀ (s:BF) (u:BE),BindsTo s fd ⟨[u],[]⟩ [(x,u)])/\∀base:BI,(K w.params).In base->base.Ns AR mg->FnOk l.prog w (K w.params) mg base CX0 k fa fd [x] (spC (K w.params) 1 aMX)):
  PySem.W.WalkO q loose XP YP l.row.toRowW d [] (λf vs=>PySem.call f vs):=
 L2.walk_of (n:=63) (k:=k) (x:=x) (CX:=λ_=>CX0) (sp:=λw=>spC (K w.params) 1 aMX) hn (by decide) hdf hr hY F
  (λw H a ns hl ho hS=>⟨rfl,aFA ho,[.scr ns],.val<|.bl true,.one (by simp only[Rep];exact⟨a,rfl,hS⟩),⟨ns,rfl,hl,rfl⟩,λv H' ⟨F,_,_,_,res⟩=>by simpa only[ResOk,Rep] using res⟩) λ_ _ _ _ _ z=>z
mutual
noncomputable def deq:D->D->Bool
 |.non,.non=>true
 |.bl a,.bl b=>a==b
 |.bl a,.int b=>(if a then 1 else 0)==b
 |.int a,.bl b=>a==(if b then 1 else 0)
 |.int a,.int b=>a==b
 |.str a,.str b=>a==b
 |.tup a,.tup b=>lJ a b
 |.lst a,.lst b=>lJ a b
 |_,_=>false
noncomputable def lJ:List D->List D->Bool
 |[],[]=>true
 |x::xs,y::ys=>deq x y&&lJ xs ys
 |_,_=>false
end
mutual
noncomputable def pl:D->Bool
 |.dic=>false
 |.dki _ _=>false
 |.any _=>false
 |.scr _=>false
 |.tup ds=>plL ds
 |.lst ds=>plL ds
 |_=>true
noncomputable def plL:List D->Bool
 |[]=>true
 |d::ds=>pl d&&plL ds
end
mutual
noncomputable def dep:D->Nat
 |.tup ds=>iQ ds+1
 |.lst ds=>iQ ds+1
 |_=>0
noncomputable def iQ:List D->Nat
 |[]=>0
 |d::ds=>max (dep d)<|iQ ds
end
theorem zZ:∀ {ds:List D}{i:Nat}{d:D},plL ds=true->ds[i]? =some d->pl d=true
 |[],i,d,_,e=>by simp at e
 |d'::ds,i,d,h,e=>by
  simp only[plL,bC] at h;cases i with
  |zero=>simp at e;subst e;exact h.1
  |succ i=>exact zZ h.2 (by simpa using e)
theorem uT:∀ {ds:List D}{i:Nat}{d:D},ds[i]? =some d->dep d<=iQ ds
 |[],i,d,e=>by simp at e
 |d'::ds,i,d,e=>by
  simp only[iQ];cases i with
  |zero=>simp at e;subst e;exact Nat.le_max_left _ _
  |succ i=>exact cG (uT (i:=i)<|by simpa using e)<|Nat.le_max_right _ _
theorem deqL_iff:∀ {xs ys:List D},lJ xs ys=true↔xs.length=ys.length/\∀ (j:Nat) (x y:D),xs[j]? =some x->ys[j]? =some y->deq x y=true
 |[],[]=>by simp[lJ]
 |[],y::ys=>by simp[lJ]
 |x::xs,[]=>by simp[lJ]
 |x::xs,y::ys=>by
  simp only[lJ,bC,bU,deqL_iff (xs:=xs) (ys:=ys)]
  constructor
  ·rintro⟨h1,h2,h3⟩;refine⟨by omega,λj a b ea eb=> ?_⟩;cases j with
   |zero=>simp at ea eb;subst ea eb;exact h1
   |succ j=>exact h3 j a b (by simpa using ea) (by simpa using eb)
  ·rintro⟨h1,h2⟩;exact⟨h2 0 x y rfl rfl,by omega,λj a b ea eb=>h2 (j+1) a b (by simpa using ea)<|by simpa using eb⟩
mutual
theorem vY{K:aB}{H:Hp}:∀ {d1 d2:D}{v:V},pl d1=true->Rep K H d1 v->Rep K H d2 v->pl d2=true->deq d1 d2=true
 |.non,d2,v,_,r1,r2,_=>by simp only[Rep] at r1;subst r1;cases d2<;>simp_all[Rep,deq]
 |.bl b,d2,v,_,r1,r2,_=>by simp only[Rep] at r1;subst r1;cases d2<;>simp_all[Rep,deq]
 |.int b,d2,v,_,r1,r2,_=>by simp only[Rep] at r1;subst r1;cases d2<;>simp_all[Rep,deq]
 |.str b,d2,v,_,r1,r2,_=>by simp only[Rep] at r1;subst r1;cases d2<;>simp_all[Rep,deq]
 |.dic,_,_,h,_,_,_=>by simp[pl] at h
 |.dki _ _,_,_,h,_,_,_=>by simp[pl] at h
 |.any _,_,_,h,_,_,_=>by simp[pl] at h
 |.scr _,_,_,h,_,_,_=>by simp[pl] at h
 |.tup ds,d2,v,p1,r1,r2,p2=>by
  simp only[Rep] at r1;obtain⟨a,xs,rfl,ha,rl⟩:=r1;cases d2 with
  |tup es=>simp only[Rep] at r2;obtain⟨a',xs',e,ha',rl'⟩:=r2;cases e;rw[ha] at ha';cases ha';simp only[deq];exact sK (by simpa[pl] using p1) rl rl' (by simpa[pl] using p2)
  |lst es=>simp only[Rep] at r2;obtain⟨a',xs',e,ha',rl'⟩:=r2;cases e;rw[ha] at ha';cases ha'
  |dic=>simp[pl] at p2
  |dki=>simp[pl] at p2
  |any=>simp[pl] at p2
  |scr=>simp[pl] at p2
  |_=>simp[Rep] at r2
 |.lst ds,d2,v,p1,r1,r2,p2=>by
  simp only[Rep] at r1;obtain⟨a,xs,rfl,ha,rl⟩:=r1;cases d2 with
  |lst es=>simp only[Rep] at r2;obtain⟨a',xs',e,ha',rl'⟩:=r2;cases e;rw[ha] at ha';cases ha';simp only[deq];exact sK (by simpa[pl] using p1) rl rl' (by simpa[pl] using p2)
  |tup es=>simp only[Rep] at r2;obtain⟨a',xs',e,ha',rl'⟩:=r2;cases e;rw[ha] at ha';cases ha'
  |dic=>simp[pl] at p2
  |dki=>simp[pl] at p2
  |any=>simp[pl] at p2
  |scr=>simp[pl] at p2
  |_=>simp[Rep] at r2
theorem sK{K:aB}{H:Hp}:∀ {ds es:List D}{xs:List V},plL ds=true->RepL K H ds xs->RepL K H es xs->plL es=true->lJ ds es=true
 |[],es,xs,_,r1,r2,_=>by
  simp only[RepL] at r1;subst r1;cases es with
  |nil=>rfl
  |cons e es=>obtain⟨y,ys,z,_⟩:=r2.uncons;cases z
 |d::ds,es,xs,p1,r1,r2,p2=>by
  obtain⟨y,ys,rfl,a,rl⟩:=r1.uncons;cases es with
  |nil=>simp only[RepL] at r2;cases r2
  |cons e es=>obtain⟨y',ys',z,a',rl'⟩:=r2.uncons;cases z;simp only[plL,bC] at p1 p2;simp only[lJ,bC];exact⟨vY p1.1 a a' p2.1,sK p1.2 rl rl' p2.2⟩
end
noncomputable def qQ:D->Bool
 |.non=>true
 |.bl _=>true
 |.int _=>true
 |.str _=>true
 |_=>false
theorem uB(h:qQ d=true)(r:Rep K H d v):nM v=true/\flt d=some v:=by cases d<;>simp_all[qQ,Rep,nM,flt]
variable {P:AF}{w:AM}{s:BF}
theorem iL(hok:HOk P w H s.heap){u:BE}(r:Rep K H (.tup ds) v)(ru:RelV v u):∃a xs its,u=.ref a/\v=.ref a/\RepL K H ds xs/\Vals xs its/\s.heap.IsTuple a its.toArray:=by simp only[Rep] at r;obtain⟨a,xs,rfl,ha,rl⟩:=r;cases ru;obtain⟨_,its,rv,p⟩:=(show ObjOk P w H s.heap a (.tup xs) from hok a _ ha);exact⟨a,xs,its,rfl,rfl,rl,rv,p.tup⟩
theorem kK(hok:HOk P w H s.heap){u:BE}(r:Rep K H (.lst ds) v)(ru:RelV v u):∃a xs its,u=.ref a/\v=.ref a/\RepL K H ds xs/\Vals xs its/\s.heap.IsList a its.toArray:=by simp only[Rep] at r;obtain⟨a,xs,rfl,ha,rl⟩:=r;cases ru;obtain⟨_,its,n,rv,p⟩:=(show ObjOk P w H s.heap a (.lst xs) from hok a _ ha);exact⟨a,xs,its,rfl,rfl,rl,rv,_,p,rfl,n,rfl⟩
noncomputable def dAt(ds es:List D)(j:Nat):Bool:=match ds[j]?,es[j]? with
 |some x,some y=>deq x y
 |_,_=>false
theorem rA(ds es:List D):((bM<|min ds.length es.length).all (dAt ds es)&&ds.length==es.length)=lJ ds es:=by
 rw[gM,deqL_iff,bC,cR,beq_iff_eq]
 constructor
 ·rintro⟨h1,h2⟩;refine⟨h2,λj x y ex ey=> ?_⟩;have hj:j<ds.length:=(aD.mp ex).1;have:=h1 j (cE.mpr<|by omega);unfold dAt at this;rw[ex,ey] at this;exact this
 ·rintro⟨h1,h2⟩;refine⟨λj hj=> ?_,h1⟩;have hj':=cE.mp hj;have e1:ds[j]? =some (ds[j]'(by omega)):=by simp
  have e2:es[j]? =some (es[j]'(by omega)):=by simp
  unfold dAt;rw[e1,e2];exact h2 j _ _ e1 e2
theorem sJ{es:List D}(h:ds.length=es.length):(bM ds.length).all (dAt ds es)=lJ ds es:=by have:=rA ds es;rw[h] at this ⊢;simpa using this
theorem wB{es:List D}(h:ds.length≠es.length):lJ ds es=false:=by
 cases e:lJ ds es with
 |false=>rfl
 |true=>exact absurd (deqL_iff.mp e).1 h
mutual
theorem aAA(hok:HOk P w H s.heap):∀ (d1:D) {d2:D}{v1 v2:V}{u1 u2:BE}{A:BH},pl d1=true->pl d2=true->Rep K H d1 v1->Rep K H d2 v2->RelV v1 u1->RelV v2 u2->A.units+dep d1<AO->SeqAt.EqAt A s u1 u2 (deq d1 d2)
 |.tup ds,d2,v1,v2,u1,u2,A,p1,p2,r1,r2,ru1,ru2,hu=>by
  have hu':A.units<AO:=by omega
  obtain⟨a,xs,its,rfl,rfl,rl,rv,ht⟩:=iL hok r1 ru1;cases d2 with
  |non=>simp only[Rep] at r2;subst r2;cases ru2;exact SeqAt.EqAt.tuple_none ht hu'
  |bl b=>simp only[Rep] at r2;subst r2;cases ru2;exact SeqAt.EqAt.tuple_bool b ht hu'
  |int b=>simp only[Rep] at r2;subst r2;obtain⟨t,rfl⟩:=ru2;exact SeqAt.EqAt.tuple_int b t ht hu'
  |str b=>simp only[Rep] at r2;subst r2;obtain⟨t,rfl⟩:=ru2;exact SeqAt.EqAt.tuple_str b t ht hu'
  |dic=>simp[pl] at p2
  |dki=>simp[pl] at p2
  |any=>simp[pl] at p2
  |scr=>simp[pl] at p2
  |lst es=>obtain⟨b,ys,jts,rfl,rfl,rl2,rv2,hl2⟩:=kK hok r2 ru2;exact SeqAt.EqAt.tuple_list ht hl2 hu'
  |tup es=>
   obtain⟨b,ys,jts,rfl,e2,rl2,rv2,ht2⟩:=iL hok r2 ru2
   by_cases hab:a=b
   ·subst hab;have:=vY p1 r1 (e2▸r2) p2;rw[this];exact SeqAt.EqAt.same _
   ·simp only[deq];rw[<-rA];have l1:its.toArray.size=ds.length:=by rw[aY,<-rv.length,rl.len]
    have l2:jts.toArray.size=es.length:=by rw[aY,<-rv2.length,rl2.len]
    rw[<-l1,<-l2];simp only[pl] at p1 p2;simp only[dep] at hu;refine .of_refs hab<|.tuples ht ht2 hu' λj h1 h2=> ?_;exact pX hok ds p1 p2 rl rl2 rv rv2 (A:=A.in1) (by show A.units+1+_<AO;omega) (by simp)<|by simp
 |.lst ds,d2,v1,v2,u1,u2,A,p1,p2,r1,r2,ru1,ru2,hu=>by
  have hu':A.units<AO:=by omega
  obtain⟨a,xs,its,rfl,rfl,rl,rv,ht⟩:=kK hok r1 ru1;cases d2 with
  |non=>simp only[Rep] at r2;subst r2;cases ru2;exact SeqAt.EqAt.list_none ht hu'
  |bl b=>simp only[Rep] at r2;subst r2;cases ru2;exact SeqAt.EqAt.list_bool b ht hu'
  |int b=>simp only[Rep] at r2;subst r2;obtain⟨t,rfl⟩:=ru2;exact SeqAt.EqAt.list_int b t ht hu'
  |str b=>simp only[Rep] at r2;subst r2;obtain⟨t,rfl⟩:=ru2;exact SeqAt.EqAt.list_str b t ht hu'
  |dic=>simp[pl] at p2
  |dki=>simp[pl] at p2
  |any=>simp[pl] at p2
  |scr=>simp[pl] at p2
  |tup es=>obtain⟨b,ys,jts,rfl,rfl,rl2,rv2,hl2⟩:=iL hok r2 ru2;exact SeqAt.EqAt.list_tuple ht hl2 hu'
  |lst es=>
   obtain⟨b,ys,jts,rfl,e2,rl2,rv2,ht2⟩:=kK hok r2 ru2
   by_cases hab:a=b
   ·subst hab;have:=vY p1 r1 (e2▸r2) p2;rw[this];exact SeqAt.EqAt.same _
   ·simp only[deq];have l1:its.toArray.size=ds.length:=by rw[aY,<-rv.length,rl.len]
    have l2:jts.toArray.size=es.length:=by rw[aY,<-rv2.length,rl2.len]
    simp only[pl] at p1 p2;simp only[dep] at hu
    by_cases hl:ds.length=es.length
    ·rw[<-sJ hl,<-l1];refine .of_refs hab<|.lists ht ht2 (by rw[l1,l2,hl]) hu' λj h1 h2=> ?_;exact pX hok ds p1 p2 rl rl2 rv rv2 (A:=A.in1) (by show A.units+1+_<AO;omega) (by simp)<|by simp
    ·rw[wB hl];exact .of_refs hab<|.lists_lengths ht ht2 (by rw[l1,l2];simpa using hl) hu'
 |.dic,_,_,_,_,_,_,p1,_,_,_,_,_,_=>by simp[pl] at p1
 |.dki _ _,_,_,_,_,_,_,p1,_,_,_,_,_,_=>by simp[pl] at p1
 |.any _,_,_,_,_,_,_,p1,_,_,_,_,_,_=>by simp[pl] at p1
 |.scr _,_,_,_,_,_,_,p1,_,_,_,_,_,_=>by simp[pl] at p1
 |.non,d2,v1,v2,u1,u2,A,p1,p2,r1,r2,ru1,ru2,hu=>by
  have hu':A.units<AO:=by omega
  simp only[Rep] at r1;subst r1;cases hf:qQ d2 with
  |true=>obtain⟨h1,h2⟩:=uB hf r2;have:=vP (A:=A) (s:=s) ru1 ru2 rfl h1;cases d2<;>simp_all[qQ,flt,Rep,deq,eqV]
  |false=>
   cases ru1;cases d2 with
   |tup es=>obtain⟨b,ys,jts,rfl,e2,rl2,rv2,ht2⟩:=iL hok r2 ru2;exact SeqAt.EqAt.none_tuple ht2 hu'
   |lst es=>obtain⟨b,ys,jts,rfl,e2,rl2,rv2,ht2⟩:=kK hok r2 ru2;exact SeqAt.EqAt.none_list ht2 hu'
   |dic=>simp[pl] at p2
   |dki=>simp[pl] at p2
   |any=>simp[pl] at p2
   |scr=>simp[pl] at p2
   |_=>simp[qQ] at hf
 |.bl q,d2,v1,v2,u1,u2,A,p1,p2,r1,r2,ru1,ru2,hu=>by
  have hu':A.units<AO:=by omega
  simp only[Rep] at r1;subst r1;cases hf:qQ d2 with
  |true=>obtain⟨h1,h2⟩:=uB hf r2;have:=vP (A:=A) (s:=s) ru1 ru2 rfl h1;cases d2<;>simp_all[qQ,flt,Rep,deq,eqV]
  |false=>
   cases ru1;cases d2 with
   |tup es=>obtain⟨b,ys,jts,rfl,e2,rl2,rv2,ht2⟩:=iL hok r2 ru2;exact SeqAt.EqAt.bool_tuple q ht2 hu'
   |lst es=>obtain⟨b,ys,jts,rfl,e2,rl2,rv2,ht2⟩:=kK hok r2 ru2;exact SeqAt.EqAt.bool_list q ht2 hu'
   |dic=>simp[pl] at p2
   |dki=>simp[pl] at p2
   |any=>simp[pl] at p2
   |scr=>simp[pl] at p2
   |_=>simp[qQ] at hf
 |.int q,d2,v1,v2,u1,u2,A,p1,p2,r1,r2,ru1,ru2,hu=>by
  have hu':A.units<AO:=by omega
  simp only[Rep] at r1;subst r1;cases hf:qQ d2 with
  |true=>obtain⟨h1,h2⟩:=uB hf r2;have:=vP (A:=A) (s:=s) ru1 ru2 rfl h1;cases d2<;>simp_all[qQ,flt,Rep,deq,eqV]
  |false=>
   obtain⟨t,rfl⟩:=ru1;cases d2 with
   |tup es=>obtain⟨b,ys,jts,rfl,e2,rl2,rv2,ht2⟩:=iL hok r2 ru2;exact SeqAt.EqAt.int_tuple q t ht2 hu'
   |lst es=>obtain⟨b,ys,jts,rfl,e2,rl2,rv2,ht2⟩:=kK hok r2 ru2;exact SeqAt.EqAt.int_list q t ht2 hu'
   |dic=>simp[pl] at p2
   |dki=>simp[pl] at p2
   |any=>simp[pl] at p2
   |scr=>simp[pl] at p2
   |_=>simp[qQ] at hf
 |.str q,d2,v1,v2,u1,u2,A,p1,p2,r1,r2,ru1,ru2,hu=>by
  have hu':A.units<AO:=by omega
  simp only[Rep] at r1;subst r1;cases hf:qQ d2 with
  |true=>obtain⟨h1,h2⟩:=uB hf r2;have:=vP (A:=A) (s:=s) ru1 ru2 rfl h1;cases d2<;>simp_all[qQ,flt,Rep,deq,eqV]
  |false=>
   obtain⟨t,rfl⟩:=ru1;cases d2 with
   |tup es=>obtain⟨b,ys,jts,rfl,e2,rl2,rv2,ht2⟩:=iL hok r2 ru2;exact SeqAt.EqAt.str_tuple q t ht2 hu'
   |lst es=>obtain⟨b,ys,jts,rfl,e2,rl2,rv2,ht2⟩:=kK hok r2 ru2;exact SeqAt.EqAt.str_list q t ht2 hu'
   |dic=>simp[pl] at p2
   |dki=>simp[pl] at p2
   |any=>simp[pl] at p2
   |scr=>simp[pl] at p2
   |_=>simp[qQ] at hf
theorem pX(hok:HOk P w H s.heap):∀ (ds:List D) {es:List D}{xs ys:List V}{its jts:List BE}{j:Nat}{x y:BE}{A:BH},plL ds=true->plL es=true->RepL K H ds xs->RepL K H es ys->Vals xs its->Vals ys jts->A.units+iQ ds<AO->its[j]? =some x->jts[j]? =some y->SeqAt.EqAt A s x y (dAt ds es j)
 |[],es,xs,ys,its,jts,j,x,y,A,_,_,r1,_,v1,_,_,e1,_=>by simp only[RepL] at r1;subst r1;cases v1;simp at e1
 |d::ds,es,xs,ys,its,jts,j,x,y,A,p1,p2,r1,r2,v1,v2,hu,e1,e2=>by
  obtain⟨a,as,rfl,ra,rl⟩:=r1.uncons;cases v1 with
  |cons va vas=>
   cases es with
   |nil=>simp only[RepL] at r2;subst r2;cases v2;simp at e2
   |cons e es=>
    obtain⟨b,bs,rfl,rb,rl2⟩:=r2.uncons;cases v2 with
    |cons vb vbs=>
     simp only[plL,bC] at p1 p2;simp only[iQ] at hu;cases j with
     |zero=>simp at e1 e2;subst e1 e2;exact aAA hok d p1.1 p2.1 ra rb va vb<|by omega
     |succ j=>exact pX hok ds p1.2 p2.2 rl rl2 vas vbs (by omega) (by simpa using e1) (by simpa using e2)
end
theorem rc_D{pins:List (BG×BJ)}{d1 d2:D}{u:V}{x y:BE}{Q:BE->BF->Prop}(I:Inv X pins σ H s)(hs:(isT d1=true/\isT d2=true)\/(isL d1=true/\isL d2=true))(p1:pl d1=true)(p2:pl d2=true)(r1:Rep K H d1 v)(r2:Rep K H d2 u)(rx:RelV v x)(ry:RelV u y)
  (hu:X.A.units+dep d1+1<AO) (q:Q (.bool<|deq d1 d2) s):AK (AH X.prog X.w) X.A (AS .Eq x y) Q X.xe s:=by
 have hu':X.A.units<AO:=by omega
 rcases hs with⟨t1,t2⟩|⟨t1,t2⟩
 ·cases d1<;>first|(simp[isT] at t1;done)|skip
  cases d2<;>first|(simp[isT] at t2;done)|skip
  rename_i ds es;obtain⟨a,xs,its,rfl,rfl,rl,rv,ht⟩:=iL I.hok r1 rx;obtain⟨b,ys,jts,rfl,rfl,rl2,rv2,ht2⟩:=iL I.hok r2 ry;have l1:its.toArray.size=ds.length:=by rw[aY,<-rv.length,rl.len]
  have l2:jts.toArray.size=es.length:=by rw[aY,<-rv2.length,rl2.len]
  simp only[pl] at p1 p2;simp only[dep] at hu;simp only[deq] at q;rw[<-rA,<-l1,<-l2] at q;exact SeqAt.eq_tupleAt ht ht2 hu' (λj h1 h2=>pX I.hok ds p1 p2 rl rl2 rv rv2 (A:=X.A.in1) (by show X.A.units+1+_<AO;omega) (by simp)<|by simp) q
 ·cases d1<;>first|(simp[isL] at t1;done)|(simp[pl] at p1;done)|skip
  cases d2<;>first|(simp[isL] at t2;done)|(simp[pl] at p2;done)|skip
  rename_i ds es;obtain⟨a,xs,its,rfl,rfl,rl,rv,ht⟩:=kK I.hok r1 rx;obtain⟨b,ys,jts,rfl,rfl,rl2,rv2,ht2⟩:=kK I.hok r2 ry;have l1:its.toArray.size=ds.length:=by rw[aY,<-rv.length,rl.len]
  have l2:jts.toArray.size=es.length:=by rw[aY,<-rv2.length,rl2.len]
  simp only[pl] at p1 p2;simp only[dep] at hu;simp only[deq] at q
  by_cases hl:ds.length=es.length
  ·rw[<-sJ hl,<-l1] at q;exact SeqAt.eq_listAt ht ht2 (by rw[l1,l2,hl]) hu' (λj h1 h2=>pX I.hok ds p1 p2 rl rl2 rv rv2 (A:=X.A.in1) (by show X.A.units+1+_<AO;omega) (by simp)<|by simp) q
  ·rw[wB hl] at q;exact SeqAt.eq_list_lengthsAt ht ht2 (by rw[l1,l2];simpa using hl) hu' q
theorem aNL{pins:List (BG×BJ)}{d1 d2:D}{u:V}{x y:BE}{Q:BE->BF->Prop}(I:Inv X pins σ H s)(hs:(isT d1=true/\isT d2=true)\/(isL d1=true/\isL d2=true))(p1:pl d1=true)(p2:pl d2=true)(r1:Rep K H d1 v)(r2:Rep K H d2 u)(rx:RelV v x)(ry:RelV u y)
  (hu:X.A.units+dep d1+1<AO) (q:Q (.bool<|!deq d1 d2) s):AK (AH X.prog X.w) X.A (AS .NotEq x y) Q X.xe s:=by
 have hu':X.A.units<AO:=by omega
 rcases hs with⟨t1,t2⟩|⟨t1,t2⟩
 ·cases d1<;>first|(simp[isT] at t1;done)|skip
  cases d2<;>first|(simp[isT] at t2;done)|skip
  rename_i ds es;obtain⟨a,xs,its,rfl,rfl,rl,rv,ht⟩:=iL I.hok r1 rx;obtain⟨b,ys,jts,rfl,rfl,rl2,rv2,ht2⟩:=iL I.hok r2 ry;have l1:its.toArray.size=ds.length:=by rw[aY,<-rv.length,rl.len]
  have l2:jts.toArray.size=es.length:=by rw[aY,<-rv2.length,rl2.len]
  simp only[pl] at p1 p2;simp only[dep] at hu;simp only[deq] at q;rw[<-rA,<-l1,<-l2] at q;exact SeqAt.RcNeAt.tuples ht ht2 hu' (λj h1 h2=>pX I.hok ds p1 p2 rl rl2 rv rv2 (A:=X.A.in1) (by show X.A.units+1+_<AO;omega) (by simp)<|by simp) _ _ _ _ q
 ·cases d1<;>first|(simp[isL] at t1;done)|(simp[pl] at p1;done)|skip
  cases d2<;>first|(simp[isL] at t2;done)|(simp[pl] at p2;done)|skip
  rename_i ds es;obtain⟨a,xs,its,rfl,rfl,rl,rv,ht⟩:=kK I.hok r1 rx;obtain⟨b,ys,jts,rfl,rfl,rl2,rv2,ht2⟩:=kK I.hok r2 ry;have l1:its.toArray.size=ds.length:=by rw[aY,<-rv.length,rl.len]
  have l2:jts.toArray.size=es.length:=by rw[aY,<-rv2.length,rl2.len]
  simp only[pl] at p1 p2;simp only[dep] at hu;simp only[deq] at q
  by_cases hl:ds.length=es.length
  ·rw[<-sJ hl,<-l1] at q;exact SeqAt.RcNeAt.lists ht ht2 (by rw[l1,l2,hl]) hu' (λj h1 h2=>pX I.hok ds p1 p2 rl rl2 rv rv2 (A:=X.A.in1) (by show X.A.units+1+_<AO;omega) (by simp)<|by simp) _ _ _ _ q
  ·rw[wB hl] at q;exact SeqAt.RcNeAt.lists_lengths ht ht2 (by rw[l1,l2];simpa using hl) hu' _ _ _ _ q
theorem ResOk.rep(S:StF K H₀ F H σ sd)(hk:r.keeps)(q:ResOk K F H sd r v):Rep K H r.toD v:=by
 cases r with
 |val d=>exact Rep.mono S.sub q
 |own ds=>exact hk.elim
 |pr d ls=>exact hk.elim
 |ox G=>exact hk.elim
 |bor ds=>obtain⟨l,xs,e,hl,rl,_⟩:=q;simp only[R.toD,Rep];exact⟨l,xs,e,hl,rl.mono S.sub⟩
theorem aLO(K:aB)(d1 d2:D)(hs:(isT d1=true/\isT d2=true)\/(isL d1=true/\isL d2=true))(p1:pl d1=true)(p2:pl d2=true)(hu:X.A.units+dep d1+1<AO):OpR X (AS .Eq) (λx y H Q=>Rep K H d1 x/\Rep K H d2 y/\Q (.bl<|deq d1 d2) H):=by intro pins s σ H x y v u Q I rx ry h;obtain⟨h1,h2,q⟩:=h;exact rc_D I hs p1 p2 h1 h2 rx ry hu ⟨.bl<|deq d1 d2,H,I,rfl,q⟩
theorem aLU(K:aB)(d1 d2:D)(hs:(isT d1=true/\isT d2=true)\/(isL d1=true/\isL d2=true))(p1:pl d1=true)(p2:pl d2=true)(hu:X.A.units+dep d1+1<AO):OpR X (AS .NotEq) (λx y H Q=>Rep K H d1 x/\Rep K H d2 y/\Q (.bl<|!deq d1 d2) H):=by intro pins s σ H x y v u Q I rx ry h;obtain⟨h1,h2,q⟩:=h;exact aNL I hs p1 p2 h1 h2 rx ry hu ⟨.bl<|!deq d1 d2,H,I,rfl,q⟩
theorem aHp(ha:PEd X sd a ra)(hb:PEd X sd b rb)(ka:ra.keeps)(kb:rb.keeps)(hs:(isT ra.toD=true/\isT rb.toD=true)\/(isL ra.toD=true/\isL rb.toD=true))(p1:pl ra.toD=true)(p2:pl rb.toD=true)(hu:X.A.units+dep ra.toD+1<AO):PEd X sd (.Compare a [.Eq] [b] pos) (.val (.bl<|deq ra.toD rb.toD)):=
 uK (aLO X.K _ _ hs p1 p2 hu) ha hb ka (fR _) λσ F H v u Q S q1 q2 k=>⟨q1.rep S ka,q2.rep S kb,k F H S<|Same.refl _⟩
theorem aDB(ha:PEd X sd a ra)(hb:PEd X sd b rb)(ka:ra.keeps)(kb:rb.keeps)(hs:(isT ra.toD=true/\isT rb.toD=true)\/(isL ra.toD=true/\isL rb.toD=true))(p1:pl ra.toD=true)(p2:pl rb.toD=true)(hu:X.A.units+dep ra.toD+1<AO):PTd X sd (.Compare a [.NotEq] [b] pos) (!deq ra.toD rb.toD):=
 kB (aLU X.K _ _ hs p1 p2 hu) ha hb ka (fR _) λσ F H v u Q S q1 q2 k=>⟨q1.rep S ka,q2.rep S kb,k F H S<|Same.refl _⟩
noncomputable def aMl(K:aB):R2:=λx y H Q=>∃a b ys,x=.ref a/\y=.ref b/\SqT K H a []/\SqT K H b ys/\Q (.ref b) H
theorem op_catT0:OpR X (Ai .Add) (aMl X.K):=by
 intro pins s σ H x y v u Q I rx ry h;obtain⟨a,b,ys,rfl,rfl,ha,hb,q⟩:=h;cases rx;cases ry;obtain⟨its,r1,p1,_⟩:=I.tuple ha;obtain⟨its2,r2,p2,_⟩:=I.tuple hb;cases r1;obtain⟨⟨cls,dd,data,sl⟩,ho,hc,n,hd⟩:=id p1;obtain⟨⟨cls2,dd2,data2,sl2⟩,ho2,hc2,n2,hd2⟩:=id p2;simp only at hc hd hc2 hd2;subst hc hd hc2 hd2
 exact concat_meets ⟨_,ho,rfl⟩ ⟨_,ho2,rfl⟩ noFill_tuple_add seq_tuple_add nK mI (lU _ _)
  (tuple_addW0 a b ([]:List BE).toArray its2.toArray n n2 dd dd2 sl sl2<|by simp) ⟨ho,ho2,⟨.ref b,H,I,rfl,q⟩⟩
theorem mY{d1 d2:List D}(ha:PEd X sd a (.val<|.tup d1))(hb:PEd X sd b (.val<|.tup d2))(hl:d1.length+d2.length<=10000):PEd X sd (.BinOp a .Add b pos) (.val (.tup<|d1++d2)):=
 aCx (op_catT0.or aJC) ha hb trivial λσ F H v u Q S q1 q2 k=>by
  simp only[ResOk,Rep] at q1 q2;obtain⟨p,xs,e1,hp,rl⟩:=q1;obtain⟨q,ys,e2,hq,rl2⟩:=q2;cases d1 with
  |nil=>simp only[RepL] at rl;subst rl;refine .inl ⟨p,q,ys,e1,e2,.of<|S.sub _ _ hp,.of<|S.sub _ _ hq,k _ F H S (Same.refl _) ?_⟩;simp only[ResOk,Rep,xH];exact⟨q,ys,rfl,hq,rl2⟩
  |cons z zs=>
   refine .inr ⟨p,q,xs,ys,e1,e2,.of<|S.sub _ _ hp,.of<|S.sub _ _ hq, ?_,by rw[rl.len,rl2.len];exact dN<|fI hl,λhy=> ?_,λhy p2 hp2=> ?_⟩
   ·intro hx;subst hx;obtain⟨_,_,w,_⟩:=rl.uncons;cases w
   ·subst hy
    have:d2=[]:=by
     cases d2 with
     |nil=>rfl
     |cons w ws=>obtain⟨_,_,w,_⟩:=rl2.uncons;cases w
    subst this;refine k _ F H S (Same.refl _) ?_;simp only[ResOk,Rep,cM];exact⟨p,xs,rfl,hp,rl⟩
   ·obtain⟨S2,s2⟩:=S.lay (o:=.tup<|xs++ys) hp2 trivial;refine k _ _ _ S2 s2 ?_;simp only[ResOk,Rep];exact⟨p2,_,rfl,bV,(rl.app rl2).mono s2⟩
theorem kZ{p:Pos}(hg:Gl X "tuple")(hm:X.mg "tuple"=none)(ha:PEd X sd e (.bor ds))(hst:AC [e] X.env=(false,eval e X.env)::AC [] X.env:=by rfl):PEd X sd (.Call (.Name "tuple" p) [e] [] pos) (.val<|.tup ds):=
 yB (he:=hst) xJ hg hm PyProof.Rows.boot_tuple (aC ha aO trivial hst) λσ F H vs Q S q k=>by
  cases q with
  |cons q1 q2=>cases q2;obtain⟨p,xs,rfl,hp,rl,_⟩:=q1;refine⟨p,xs,rfl,.inl ⟨.of hp,λl hl=> ?_⟩⟩;obtain⟨S2,s2⟩:=S.lay (o:=.tup xs) hl trivial;refine k _ _ _ S2 s2 ?_;simp only[ResOk,Rep];exact⟨l,xs,rfl,bV,rl.mono s2⟩
noncomputable def Ite(K:aB)(a:BG):It:=
 ⟨λi H=>∃xs x,SqL K H a xs/\xs[i]? =some x,λi H x H'=>∃p v,x=.ref p/\H p=none/\H'=upd H p (.tup [.int i,v])/\∀xs,SqL K H a xs->xs[i]? =some v,λi H=>∃xs,SqL K H a xs/\xs.length<=i⟩
theorem aJy{pins:List (BG×BJ)}{h':BI}{t':Nat}{e it:BG}(I:Inv X pins σ H s)(k:∀b o,b≠e->b≠it->s.heap.get? b=some o->h'.get? b=some o)(f1:wN X pins H e)(f2:wN X pins H it):Inv X pins σ H {s with heap:=h',toks:=t'}:=by
 have nit:∀b u,H b=some u->b≠e/\b≠it:=λb u q=>⟨λz=>(by rw[z,f1.1] at q;cases q),λz=>(by rw[z,f2.1] at q;cases q)⟩
 have ne:∀b,b∉[e,it]->b≠e/\b≠it:=λb hc=>⟨λz=>hc (by simp[z]),λz=>hc<|by simp[z]⟩
 refine I.step (g':=s.gens) (d':=s.drawn) (ch:=[e,it]) (λb hb=> ?_) (λb o _ _ hc q _=>k b o (ne b hc).1 (ne b hc).2 q) (λb o _ _ hc q _=>⟨o.slots,k b o (ne b hc).1 (ne b hc).2 q⟩) (λ_ _ _ _ n=>n)
  (λb o hc q=>⟨o,k b o (ne b hc).1 (ne b hc).2 q⟩) (λ_ _ q=>q) (λ_ _ _ q=>q) (λb ps q=>⟨#[],by rw[q];simp⟩) (λm hm=> ?_) (λb u q=> ?_) I.bare
 ·rcases aU.mp hb with z|hb
  ·subst z;exact⟨f1.2.2.2.1,f1.2.1,f1.2.2.2.2.1,f1.2.2.2.2.2⟩
  ·have z:b=it:=by simpa using hb
   subst z;exact⟨f2.2.2.2.1,f2.2.1,f2.2.2.2.2.1,f2.2.2.2.2.2⟩
 ·obtain⟨o,es,ep,ho,r⟩:=hm;exact⟨o,es,ep,k _ o (Ne.symm f1.2.1) (Ne.symm f2.2.1) ho,r⟩
 ·refine(I.hok b u q).stay (λc v hc g=> ?_) (λ_ g=>g) λ_ _ g=>g
  rcases hc with z|z
  ·rw[z] at g ⊢;exact k b v (nit b u q).1 (nit b u q).2 g
  ·exact k c v (nit c _ z).1 (nit c _ z).2 g
theorem aEE{elts:List Expr}{kk:Nat}(a e it:BG)(hei:e≠it):aGE P w K (.Tuple elts kk pos) (Ite K a) [e,it] e (λi h=>(∃old,IsEnum h e it i old)/\h.IsListIter it a i) where
 mem:=by simp
 obj:=λi h st b hb=>by
  obtain⟨⟨old,he⟩,hit⟩:=st
  rcases aU.mp hb with z|hb
  ·subst z;exact⟨_,he,λv z=>by cases z⟩
  ·have z:b=it:=by simpa using hb
   subst z;obtain⟨o,q,c,d⟩:=hit;exact⟨o,q,λv z=>by rw[d] at z;cases z⟩
 keep:=λi h h' st k=>by obtain⟨⟨old,he⟩,hit⟩:=st;exact⟨⟨old,k e (by simp) _ he⟩,hit.at λo q=>k it (by simp) o q⟩
 item:=by
  intro X hP hw hK hc i pins s σ H E I hf st hg;subst hP hw hK;obtain⟨⟨old,he⟩,hit⟩:=st;obtain⟨xs,x,hq,hx⟩:=hg;obtain⟨its,rv,p,hz⟩:=I.list hq;obtain⟨u,hu,ru⟩:=rv.get hx;have f1:=hf e (by simp);have f2:=hf it (by simp);refine wpAny_pyNext_enum_item he hit p.isList (x:=u) (by simpa using hu) hei λh1 heo hit1 ht1 hz1 hk1=> ?_
  refine⟨_,rfl,wpAny_letOwnedTupleGo_enum heo λh2 he2 hs2=> ?_⟩;have hs2:Heap.SameBut e h1 h2:=hs2;have esz:e<s.heap.objs.size:=aR he;have isz:it<s.heap.objs.size:=by obtain⟨_,q,_⟩:=hit;exact aR q
  have I1:Inv X pins σ H {s with heap:=h2,toks:=s.toks+1}:=aJy I (λb o h1' h2' q=>(hs2.2 b h1').trans<|hk1 b o h1' h2' q) f1 f2;have hn:H s.heap.objs.size=none:=I.hok.fresh<|aP _;have g2:h2.get? s.heap.objs.size=some {cls:=.type "tuple",data:=.seq #[.int i s.toks,u]}:=(hs2.2 _<|jW esz).trans ht1
  have I2:Inv X pins σ (upd H s.heap.objs.size<|.tup [.int i,x]) {s with heap:=h2,toks:=s.toks+1}:=by
   refine I1.track hn I.sz (jW I.lt) (λy c q=> ?_) (λy hy=> ?_) ⟨by show 2<=AL;decide,[.int i s.toks,u],.cons ⟨_,rfl⟩<|.cons ru .nil,⟨_,g2,rfl,⟨_,rfl⟩,rfl⟩⟩
   ·obtain⟨v,o,ho,_⟩:=I.cell y c q;exact bN<|aR ho
   ·exact bN<|aR (I.pin y hy).1
  refine⟨.ref s.heap.objs.size,_,I2,rfl,⟨_,x,rfl,hn,rfl,λys hy=>by rw[I.list_inj hy hq];exact hx⟩,⟨⟨u, ?_⟩, ?_⟩,λb hb=> ?_⟩
  ·have:((i+1:Nat):Int)=(i:Int)+1:=by push_cast;rfl
   rw[this];exact he2
  ·exact hit1.at λo q=>(hs2.2 it<|Ne.symm hei).trans q
  ·rcases aU.mp hb with z|hb
   ·subst z;rw[bI<|bN esz];exact f1.1
   ·have z:b=it:=by simpa using hb
    subst z;rw[bI<|bN isz];exact f2.1
 done:=by intro X hP hw hK hc i pins s σ H E I hf st hg;subst hP hw hK;obtain⟨⟨old,he⟩,hit⟩:=st;obtain⟨xs,hq,hx⟩:=hg;obtain⟨its,rv,p,hz⟩:=I.list hq;obtain⟨f0,f1,f2,f3,f4,f5⟩:=hf it (by simp);have hl:=rv.length;exact wpAny_pyNext_enum_end (I.ok.hd hc) he hit p.isList (by simp;omega) λh' eb=>⟨rfl,I.turned (t':=s.toks) (λb o hb q=>eb b o hb q) f0 f1 f3 f4 f5⟩
 self:=λ_ _ _ _ _ st h=>by obtain⟨⟨old,he⟩,_⟩:=st;exact wpAny_pyIter_enum he h
noncomputable def aNO(K:aB)(ta:TA):TI:=λσ H R=>ta σ H λvs H1=>∃l,vs=[.ref l]/\(∃xs,SqL K H1 l xs)/\R (Ite K l) H1
theorem aJN{elts:List Expr}{kk:Nat}{tp:Pos}{ta:TA}{p:Pos}(hg:Gl X "enumerate")(hm:X.mg "enumerate"=none)(ha:PA X [a] ta)(hs:AC [a] X.env=[(false,eval a X.env)]:=by rfl):PI X (.Tuple elts kk tp) (.Call (.Name "enumerate" p) [a] [] pos) (aNO X.K ta):=by
 intro pins s σ H R I h;refine Call_ (oO I hg hm boot_enumerate<|PyProof.Rows.callWith_type1 (thn (ha pos pins s σ H _ I h) λus s1 ⟨vs,H1,I1,r1,q1⟩=> ?_) hs rfl);obtain⟨l,rfl,⟨xs,hq⟩,q⟩:=q1;cases r1 with
 |cons r rr=>
  cases rr;cases r;obtain⟨its,rv,p,hz⟩:=I1.list hq;refine call_enumerate_list p.isList λh' he hit hsz hk=> ?_
  refine wpAny_pyIter_enum he ?_;have I2:Inv X pins σ H1 {s1 with heap:=h'}:=I1.kept (t':=s1.toks) hk;refine⟨s1.heap.objs.size+1,[s1.heap.objs.size+1,s1.heap.objs.size],_,Ite X.K l,H1,rfl,I2,aEE l _ _<|Nat.succ_ne_self _,⟨⟨_,he⟩,hit⟩,λb hb=> ?_,q⟩
  rcases aU.mp hb with z|hb
  ·subst z;exact I1.fpOk (iX _) (I1.hok.fresh<|iX _)
  ·have z:b=s1.heap.objs.size:=by simpa using hb
   subst z;exact I1.fpOk (aP _) (I1.hok.fresh<|aP _)
noncomputable def tJ(ds:List D):List D:=(bM ds.length).map λ(i:Nat)=>D.tup [.int (i:Int),ds.getD i .non]
theorem oV(ds:List D):(tJ ds).length=ds.length:=by simp[tJ]
theorem sX{i:Nat}(h:(tJ ds)[i]? =some d):∃x,ds[i]? =some x/\d=.tup [.int (i:Int),x]:=by
 unfold tJ at h;rw[aS] at h
 by_cases hi:i<ds.length
 ·rw[qE hi] at h;refine⟨ds[i],by simp[hi], ?_⟩;rw[<-bS.inj h];simp[cB,hi]
 ·rw[iD<|by simpa using hi] at h;cases h
def LP(K:aB)(l:BG)(ds:List D):Hp->Hp->Prop:=λF H=>∃xs,H l=some (.lst xs)/\RepL K F ds xs
theorem aFV{F₁:Hp}{l:BG}:ItD X.K F₁ (LP X.K l ds) (Ite X.K l) (tJ ds):=λF H _ sH sm hP i=>by
 obtain⟨xs,hl,rl⟩:=hP;refine⟨λhi=> ?_,λhi=> ?_,λx H' d hd y=> ?_⟩
 ·rw[oV] at hi;exact⟨xs,xs[i]'(by rw[rl.len];exact hi),.of hl,by simp[rl.len,hi]⟩
 ·rw[oV] at hi;exact⟨xs,.of hl,by rw[rl.len];exact hi⟩
 ·obtain⟨p,v,rfl,hp,rfl,hv⟩:=y;obtain⟨z,hz,rfl⟩:=sX hd;have hv:=hv xs<|.of hl;obtain⟨v',h1,rz⟩:=rl.get hz;rw[hv] at h1;cases h1;have fp:F p=none:=sH.free hp;have s1:Same F (upd F p<|.tup [.int i,v]):=λb u q=>by rw[bI<|cC q fp];exact q
  refine⟨upd F p<|.tup [.int i,v],s1, ?_,λH₀ σ sd S=>(S.lay (o:=.tup [.int i,v]) hp trivial).1⟩;simp only[Rep];exact⟨p,_,rfl,bV,.cons (by simp only[Rep]) (.one<|rz.mono s1)⟩
theorem aAK{elts:List Expr}{kk:Nat}{tp p:Pos}(hg:Gl X "enumerate")(hm:X.mg "enumerate"=none)(ha:PEd X sd a (.val<|.lst ds))(hst:AC [a] X.env=[(false,eval a X.env)]:=by rfl):
  PId X sd PT0 (.Tuple elts kk tp) (.Call (.Name "enumerate" p) [a] [] pos) (tJ ds):=.mk λσ F H S=>
 (aJN hg hm zT hst).to ((aC ha aO trivial (by rw [hst]; rfl) σ F H S).imp fun vs H1 ⟨F1,S1,s1,q1⟩=>by
  cases q1 with
  |cons q1 q2=>
   cases q2;simp only[ResOk,Rep] at q1;obtain⟨l,xs,rfl,hl,rl⟩:=q1;refine⟨l,rfl,⟨xs,.of<|S1.sub _ _ hl⟩,F1,S1,s1,λF' H' sF sH sm _ i=> ?_⟩
   exact aFV (X:=X) (F₁:=F1) F' H' sF sH sm ⟨xs,sH _ _ (sF _ _ hl),rl.mono sF⟩ i)
theorem aJP{ns:List Int}{us:List BE}(r:Vals (ns.map V.int) us){i:Nat}{u:BE}(h:us[i]? =some u):i<ns.length/\∃t,u=.int (ns.getD i 0) t:=by
 have hl:=r.length;rw[aA] at hl;have hi:i<us.length:=(aD.mp h).1
 have e:(ns.map V.int)[i]? =some (.int<|ns.getD i 0):=by
  rw[aS];have:i<ns.length:=by omega
  simp[cB,this]
 obtain⟨u',h1,t,h2⟩:=r.get e;rw[h] at h1;cases h1;exact⟨by omega,t,h2⟩
noncomputable def cutD(ds:List D)(lo hi:Option Int):List D:=(ds.drop<|HT.sIx ds.length 0 lo).take<|HT.sIx ds.length ds.length hi-HT.sIx ds.length 0 lo
theorem RepL.cut{xs:List V}(r:RepL K H ds xs)(lo hi:Option Int):RepL K H (cutD ds lo hi) (aHU xs lo hi):=by unfold cutD aHU;rw[r.len];exact(r.drop _).take _
def POd(X:Cx)(sd:List Slot)(e:Option Expr)(o:Option Int):Prop:=match e,o with
 |none,none=>True
 |some e,some i=>PEd X sd e (.val<|.int i)
 |_,_=>False
theorem aDm{eo:Option Expr}{o:Option Int}(h:POd X sd eo o):∃t:TO,PO X eo t/\∀ (σ:St) (F H:Hp),StF X.K X.B₀ F H σ sd->∀Q:Option Int->Hp->Prop,(∀F' H',StF X.K X.B₀ F' H' σ sd->Same F F'->Q o H')->t σ H Q:=by
 cases eo with
 |none=>
  cases o with
  |none=>exact⟨_,aII,λσ F H S Q k=>k F H S<|Same.refl _⟩
  |some i=>exact h.elim
 |some e=>
  cases o with
  |none=>exact h.elim
  |some i=>have h:PEd X sd e (.val<|.int i):=h;refine⟨_,aJS eY,λσ F H S Q k=>(h σ F H S).imp λv H1 ⟨F1,S1,s1,q1⟩=> ?_⟩;simp only[ResOk,Rep] at q1;exact⟨i,q1,k F1 H1 S1 s1⟩
theorem aAG{lo hi:Option Expr}{ol oh:Option Int}{p2:Pos}(ha:PEd X sd a (.val<|.tup ds))(hl:POd X sd lo ol)(hh:POd X sd hi oh)(hn:¬ (HT.sIx ds.length 0 ol=0/\HT.sIx ds.length ds.length oh=ds.length)):PEd X sd (.Subscript a (.Slice lo hi none p2) pos) (.val (.tup<|cutD ds ol oh)):=.mk λσ F H S=>by obtain⟨tl,pl,kl⟩:=aDm hl;obtain⟨th,ph,kh⟩:=aDm hh;refine(aGa aLA eY pl ph).to<|(ha σ F H S).imp λv H1 ⟨F1,S1,s1,q1⟩=>kl σ F1 H1 S1 _ λF2 H2 S2 s2=>kh σ F2 H2 S2 _ λF3 H3 S3 s3=> ?_;have q1:=Rep.mono (s2.trans s3) q1;simp only[Rep] at q1;obtain⟨l,xs,rfl,hl',rl⟩:=q1;refine⟨l,xs,rfl,.of<|S3.sub _ _ hl',by rw[rl.len];exact hn,λp hp=> ?_⟩;obtain⟨S4,s4⟩:=S3.lay (o:=.tup<|aHU xs ol oh) hp trivial;refine⟨_,S4,((s1.trans s2).trans s3).trans s4, ?_⟩;simp only[ResOk,Rep];exact⟨p,_,rfl,bV,(rl.cut ol oh).mono s4⟩
theorem aMB{i:Int}(ha:PEd X sd a (.val<|.int i)):PEd X sd (.UnaryOp .USub a pos) (.val<|.int (-i)):=.mk λσ F H S=>
 (aOc aMn eY).to ((ha σ F H S).imp fun v H1 ⟨F1,S1,s1,q1⟩=>by
  simp only[ResOk,Rep] at q1
  exact⟨i,q1,F1,S1,s1,by simp only[ResOk,Rep]⟩)
theorem fM{body:List BK}{P:Hp->Hp->Prop}(Sd:Nat->List Slot->Prop)(hi:PId X sd P tg iter ds)(h0:∃sd0,Le sd sd0/\Sd 0 sd0)
  (hb:∀k d sdk,ds[k]? =some d->Sd k sdk->∃sdt,PGd X sdk tg d sdt/\PSd X sdt body {E with nx:=λsd'=>∃sd2,Le sd' sd2/\Sd (k+1) sd2,ct:=λsd'=>∃sd2,Le sd' sd2/\Sd (k+1) sd2,bk:=E.nx}) (hE:∀sdn,Sd ds.length sdn->E.nx sdn) (hP:∀k sdk σ F H,Sd k sdk->StF X.K X.B₀ F H σ sdk->P F H:=by intros;trivial)
  (hc:X.calm=true:=by rfl) (hp:PassesOwn (AH X.prog X.w) X.A X.env X.xe:=by exact PassesOwn.never) (hs:∀x,Ao iter X.env x=pure x:=by intro _;rfl):PSd1 X sd (.For tg iter body [] pos) E:=.mk λσ F H S=>
 (aGL hp hc aOL aOM rV hs).to (by
  intro pins s I;refine thn (hi σ F H S pins s I) λv s1 h1=>thn h1 λitv s2 h2=> ?_
  obtain⟨it,fp,tn,J,H2,e,I2,T,st2,f2,F1,S1,s1',itd⟩:=h2;refine⟨it,fp,tn,J,H2,e,I2,T,st2,f2, ?_⟩;obtain⟨sd0,le0,q0⟩:=h0;refine⟨λi m σ' H'=>m=ds.length-i/\i<=ds.length/\∃sdi F',StF X.K X.B₀ F' H' σ' sdi/\Same F1 F'/\Sd i sdi,⟨ds.length,by simp,bP _,sd0,F1,S1.le le0,Same.refl _,q0⟩, ?_⟩;rintro i m σ' H' ⟨rfl,hil,sdi,F',S',s',qi⟩;obtain⟨g1,g2,g3⟩:=itd F' H' s' S'.sub S'.smp (hP _ _ _ _ _ qi S') i
  by_cases hlt:i<ds.length
  ·refine .inr ⟨g1 hlt,λσ2 H2=>∃sd2 F2,StF X.K X.B₀ F2 H2 σ2 sd2/\Same F1 F2/\Sd (i+1) sd2,λσ2 H2 ⟨sd2,F2,S2,s2,q2⟩=>⟨ds.length-(i+1),by omega,rfl,hlt,sd2,F2,S2,s2,q2⟩,λx H2 y=> ?_⟩;have hd:ds[i]? =some ds[i]:=by simp[hlt]
   obtain⟨F2,s2,rp,up⟩:=g3 x H2 ds[i] hd y;obtain⟨sdt,hg,hbb⟩:=hb i _ sdi hd qi;refine(hg σ' F2 H2 x (up _ _ _ S') rp).imp λσ3 H3 ⟨F3,S3,s3⟩=> ?_
   have base:Same F1 F3:=(s'.trans s2).trans s3;refine(hbb σ3 F3 H3 S3).imp ?_ ?_ ?_ ?_
   ·rintro σ4 H4 ⟨sd4,F4,S4,s4,sd5,le,q5⟩;exact⟨sd5,F4,S4.le le,base.trans s4,q5⟩
   ·exact λv H4 q=>q
   ·rintro σ4 H4 ⟨sd4,F4,S4,s4,q⟩;exact⟨sd4,F4,S4,(s1'.trans base).trans s4,q⟩
   ·rintro σ4 H4 ⟨sd4,F4,S4,s4,sd5,le,q5⟩;exact⟨sd5,F4,S4.le le,base.trans s4,q5⟩
  ·have e:i=ds.length:=by omega
   subst e
   exact .inl ⟨g2 (aP _),sdi,F',S',s1'.trans s',hE sdi qi⟩)
noncomputable def hW(m:Nat):Nat->List (List Int)
 |0=>[[]]
 |k+1=>(hW m k).flatMap λs=>(bM m).map λ(w:Nat)=>s++[(w:Int)]
noncomputable def bJ(s:List Int):D:=.tup<|s.map D.int
noncomputable def tU(m:Int)(ws:List Int):Int:=ws.foldl (λn w=>n*m+w) 0
noncomputable def aNv(b k:Nat):Bool:=let L:=hW (2^b) k;L.length==2^(b*k)&&(bM L.length).all λi=>let f:=L.getD i [];f.length==k&&f.all (λw=>decide (0<=w)&&decide (w<2^b))&&decide (tU (2^b) f=i)&&(i==0||HT.lexLt (L.getD (i-1) []) f)
theorem aLu:∀p∈bO,aNv p.1.toNat p.2.toNat=true:=by decide+kernel
theorem vT:∀p∈bO,1<=p.1/\p.1<=6/\1<=p.2/\p.2<=6/\p.1*p.2<=6:=by decide+kernel
theorem aDl{m:Nat}:∀ {k:Nat}{ws:List Int},ws.length=k->(∀w∈ws,0<=w/\w<m)->ws∈hW m k
 |0,ws,h,_=>by have:ws=[]:=List.length_eq_zero_iff.mp h;subst this;simp[hW]
 |k+1,ws,h,hw=>by
  have hne:ws≠[]:=by intro z;subst z;simp at h
  have e:ws=ws.dropLast++[ws.getLast hne]:=(fP hne).symm;have hl:=hw (ws.getLast hne)<|aKg hne;have ih:ws.dropLast∈hW m k:=aDl (by rw[List.length_dropLast,h];rfl) λw hm=>hw w<|List.dropLast_subset _ hm
  show ws∈(hW m k).flatMap λs=>(bM m).map λ(w:Nat)=>s++[(w:Int)]
  refine dI.mpr ⟨_,ih,aQ.mpr ⟨(ws.getLast hne).toNat,cE.mpr<|by omega, ?_⟩⟩;have:(((ws.getLast hne).toNat:Nat):Int)=ws.getLast hne:=by omega
  rw[this];exact e.symm
structure aLa(b k:Nat):Prop where
 len:(hW (2^b) k).length=2^(b*k)
 at_:∀i,i<2^(b*k)->((hW (2^b) k).getD i []).length=k/\(∀w∈(hW (2^b) k).getD i [],0<=w/\w<2^b)/\tU (2^b) ((hW (2^b) k).getD i [])=i/\(i=0\/HT.lexLt ((hW (2^b) k).getD (i-1) []) ((hW (2^b) k).getD i [])=true)
theorem aHa{b k:Nat}(h:aNv b k=true):aLa b k:=by unfold aNv at h;simp only[bC,beq_iff_eq,cR,cE,decide_eq_true_eq,oU] at h;obtain⟨h1,h2⟩:=h;refine⟨h1,λi hi=> ?_⟩;obtain⟨⟨⟨a,b⟩,c⟩,d⟩:=h2 i (by omega);exact⟨a,b,c,d⟩
theorem aMb{b k:Nat}(h:aLa b k){ws:List Int}(hl:ws.length=k)(hw:∀w∈ws,0<=w/\w<((2^b:Nat):Int)):0<=tU (2^b) ws/\(tU (2^b) ws).toNat<2^(b*k)/\(hW (2^b) k).getD (tU (2^b) ws).toNat []=ws:=by
 have hm:=aDl hl hw;obtain⟨i,hi,e⟩:=List.mem_iff_getElem.mp hm;have e':(hW (2^b) k).getD i []=ws:=by simp[cB,hi,e]
 rw[h.len] at hi;have hn:=(h.at_ i hi).2.2.1;rw[e'] at hn;rw[hn];refine⟨by omega,by simpa using hi, ?_⟩;simpa using e'
theorem aAJ:∀ (ws vs:List Int),lJ (ws.map D.int) (vs.map D.int)=decide (ws=vs)
 |[],[]=>by simp[lJ]
 |[],_::_=>by simp[lJ]
 |_::_,[]=>by simp[lJ]
 |w::ws,v::vs=>by
  simp only[bA,lJ,deq,aAJ ws vs]
  by_cases h1:w=v<;>by_cases h2:ws=vs<;>simp[h1,h2]
theorem aAW(ws vs:List Int):deq (bJ ws) (bJ vs)=decide (ws=vs):=by unfold bJ;simp only[deq,aAJ]
theorem aBe:∀ws:List Int,plL (ws.map D.int)=true
 |[]=>rfl
 |w::ws=>by simp[plL,pl,aBe ws]
theorem xQ:∀ws:List Int,iQ (ws.map D.int)=0
 |[]=>rfl
 |w::ws=>by simp[iQ,dep,xQ ws]
theorem uJ(ws:List Int):pl (bJ ws)=true:=by simp[bJ,pl,aBe]
theorem wL(ws:List Int):dep (bJ ws)=1:=by simp[bJ,dep,xQ]
theorem rQ:∀L:List (List Int),plL (L.map bJ)=true
 |[]=>rfl
 |w::ws=>by simp[plL,uJ,rQ ws]
theorem oZ:∀L:List (List Int),iQ (L.map bJ)<=1
 |[]=>by simp[iQ]
 |w::ws=>by have:=oZ ws;simp only[bA,iQ,wL];omega
theorem aIe{i j:Int}(h1: -(2^64)<j)(h2:j<2^64):IntMulOk i j:=.of_right<|intBits_le_64 h1 h2
theorem oN{L:List (List Int)}{k:Nat}(h:(L.map bJ)[k]? =some d):k<L.length/\d=bJ (L.getD k []):=by
 rw[aS] at h;cases e:L[k]? with
 |none=>rw[e] at h;cases h
 |some z=>rw[e] at h;refine⟨(aD.mp e).1, ?_⟩;rw[<-bS.inj h,cB,e];rfl
theorem aDf{g:Str}{ad:BG}{xs:List V}{p:Pos}(hg:Gl X g)(hm:X.mg g=some (.ref ad))(hq:∀H,SqT X.K H ad xs)(ha:PEd X sd a (.val d))(hd:flt d=some v)(fv:nM v=true)(fx:xs.all nM=true)
  (hk:AT .In (.Name g p)=false:=by with_unfolding_all rfl) (hdb:(g==("__debug__":Str))=false:=by decide):PTd X sd (.Compare a [.In] [.Name g p] pos) (inV v xs):=.mk λσ F H S=>
 (uG aEc eY (mU (v:= .ref ad) hg hm rfl hdb) hk).to ((ha σ F H S).imp fun x H1 ⟨F1,S1,s1,q1⟩=>by
  have e:=qP hd q1;subst e
  exact⟨ad,xs,rfl,.inr (hq H1),fv,fx,_,rfl,rfl,F1,S1,s1⟩)
theorem aGm(i:Nat){elt:Expr}{ifs:List Expr}{scope:Scope}{N M:List Str}{cap:List (Option Nat)}{sc:Scope}{Tb:D->List Slot}{y:Str}{py spos:Pos}(p:D->Bool)(f:D->D)(ho:cA sd=[])
  (hN:X.N.Nodup) (hi:X.N[i]? =some y) (hy:X.env.scope.names.lookup y=some .local)
  (hsw:AX (.ListComp elt [⟨tg,iter,ifs,0⟩] scope pos) (some<|.Name y py) spos.line X.env=pure true)
  (hit:PId X sd PT0 tg iter ds) (hl:ds.length<=10000)
  (hsc:X.env.scope=sc) (hcn:mE scope sc=true) (hM:X.N=M) (hcap:lF N M scope sc cap=true) (hk:scope.kind=.function)
  (hg:∀cl C fp s H d,d∈ds->PGd (cxB X N scope cl C fp s H) (lI cap sd) tg d (Tb d))
  (hle:∀d,d∈ds->Le (Tb d) (lI cap sd))
  (ht:∀cl C fp s H d,d∈ds->(ifs=[]/\p d=true)\/∃c,ifs=[c]/\PTd (cxB X N scope cl C fp s H) (Tb d) c (p d))
  (he:∀cl C fp s H d,d∈ds->p d=true->PEd (cxB X N scope cl C fp s H) (Tb d) elt (.val<|f d))
  (hE:∀l,E.nx<|sd.set i (.own l<|(ds.filter p).map f))
  (hc:X.calm=true:=by rfl) (hs:∀x,Ao iter X.env x=pure x:=by intro _;rfl):
  PSd1 X sd (.Assign [.Name y py] (.ListComp elt [⟨tg,iter,ifs,0⟩] scope pos) spos) E:=.mk λσ F H S=>by
 intro pins s I
 have nm:∀y∈scope.names,(y.2=NameKind.free->sc.names.lookup y.1=some NameKind.cell)/\(y.2=NameKind.local->scope.names.lookup y.1=some NameKind.local):=λy hy=>by have q:=cR.mp hcn y hy;simp only[bC,oU,mH,beq_eq_false_iff_ne,ne_eq,beq_iff_eq] at q;exact⟨λe=>q.1.1.resolve_left λz=>z e,λe=>q.2.resolve_left λz=>z e⟩
 have fre:∀y∈scope.names,y.2=.free->∃c,X.env.cells.lookup y.1=some c:=λy hy e=>I.ok.has y.1 (.inl<|by show X.env.scope.names.lookup y.1=_;rw[hsc];exact(nm y hy).1 e)
 rw[exec_Assign_Name_used _ _ _ _ hsw];refine AA (wpAny_standAt<|AA ?_);show AK _ X.A (do let _ <-comprehension (.ListComp elt [⟨tg,iter,ifs,0⟩] scope pos) scope X.env _ (newList []) false (eval iter X.env) (some<|assign (.Name y py) X.env)) _ _ s;refine AA<|AY (wpAny_comprehension_free (use:=some<|assign (.Name y py) X.env) (Q:=λ_ s'=>SP X pins (lft X F E) .next s') rfl hs (vE fre) hk (λy hy=>(nm y hy).2) ?_) (λ_ s' hq=>AB<|AB hq) λ_ _ e=>e;refine thn (hit σ F H S pins s I) λv s1 h1=>thn h1 λitv s2 h2=> ?_
 obtain⟨it,fp,tn,J,H2,e,I2,T,st2,f2,F1,S1,s1',itd⟩:=h2;subst e;have S1b:StF X.K H2 H2 H2 (vD cap σ) (lI cap sd):=⟨Same.refl _,Same.refl _,S1.smp,zU (H':=H2) S1.slots S1.sub cap,by rw[pV];exact cZ⟩
 refine aAZ (N:=N) (cap:=cap) (g:=λv σ2 H3 Q=>∀cl C,wG (cxB X N scope cl C fp s2 H2) tg v σ2 H3 Q) (tt:=λσ2 H3 Q=>∀cl C,aNg (cxB X N scope cl C fp s2 H2) ifs σ2 H3 Q) (te:=λσ2 H3 Q=>∀cl C,wE (cxB X N scope cl C fp s2 H2) elt σ2 H3 Q)
  hc hsc hcn (by rw[hM];exact hcap) hk I2 T st2 f2 (λcl C pi s3 σ3 H3 v u Q I3 ru q=>q cl C pi s3 u I3 ru) (λcl C pi s3 σ3 H3 Q I3 q=>q cl C pi s3 I3) (λcl C pi s3 σ3 H3 Q I3 q=>q cl C pi s3 I3)
  (λi m ys σb H3=>m=ds.length-i/\i<=ds.length/\∃Fb,StF X.K H2 Fb H3 σb (lI cap sd)/\RepL X.K Fb (((ds.take i).filter p).map f) ys) ds.length
  ⟨by simp,bP _,H2,S1b,by simpa using RepL.nil⟩ _ ?_
 rintro i' m ys σb H3 ⟨rfl,hil,Fb,Sb,rl⟩;have sF1:Same F1 Fb:=λb o g=>Sb.base _ _<|S1.sub _ _ g
 obtain⟨g1,g2,g3⟩:=itd Fb H3 sF1 Sb.sub Sb.smp trivial i'
 by_cases hlt:i'<ds.length
 ·have hd:ds[i']? =some ds[i']:=by simp[hlt]
  have hm:ds[i']∈ds:=fZ hlt
  have ylen:ys.length<=i':=by rw[rl.len,aA];exact cG (pH _ _) (by simp;omega)
  refine .inr ⟨g1 hlt,fI<|by omega,λys' σ' H'=>∃Fb',StF X.K H2 Fb' H' σ' (lI cap sd)/\RepL X.K Fb' (((ds.take<|i'+1).filter p).map f) ys',λys' σ' H' ⟨Fb',Sb',rl'⟩=>⟨ds.length-(i'+1),by omega,rfl,hlt,Fb',Sb',rl'⟩,λx H4 y cl C=> ?_⟩;obtain⟨F4,s4,rp,up⟩:=g3 x H4 ds[i'] hd y;refine(hg cl C fp s2 H2 _ hm σb F4 H4 x (up _ _ _ Sb) rp).imp λσ5 H5 ⟨F5,S5,s5⟩ cl2 C2=> ?_
  have rl5:=rl.mono<|s4.trans s5
  have fin:∀ (b:Bool) (H6:Hp) (F6:Hp),b=p ds[i']->StF X.K H2 F6 H6 σ5 (Tb ds[i'])->Same F5 F6->if b=true then(∀cl C,wE (cxB X N scope cl C fp s2 H2) elt σ5 H6 λv H5=>∃Fb',StF X.K H2 Fb' H5 σ5 (lI cap sd)/\RepL X.K Fb' (((ds.take<|i'+1).filter p).map f) (ys++[v])) else ∃Fb',StF X.K H2 Fb' H6 σ5 (lI cap sd)/\RepL X.K Fb' (((ds.take<|i'+1).filter p).map f) ys:=λb H6 F6 eb S6 s6=>by
   rw[lZ p hd,<-eb];cases b with
   |false=>exact aGF ⟨F6,S6.le<|hle _ hm,by simpa using rl5.mono s6⟩
   |true=>
    refine aGG λcl3 C3=>(he cl3 C3 fp s2 H2 _ hm eb.symm σ5 F6 H6 S6).imp λv H7 ⟨F7,S7,s7,q7⟩=>⟨F7,S7.le<|hle _ hm, ?_⟩
    simp only[if_true,aW,bA,dL];exact((rl5.mono s6).mono s7).app<|.one q7
  rcases ht cl2 C2 fp s2 H2 _ hm with⟨e1,e2⟩|⟨c,e1,q⟩
  ·subst e1;exact aBm (fin true H5 F5 e2.symm S5<|Same.refl _)
  ·subst e1;exact aBg<|(q σ5 F5 H5 S5).imp λb H6 ⟨eb,F6,S6,s6⟩=>fin b H6 F6 eb S6 s6
 ·have e:i'=ds.length:=by omega
  subst e;refine .inl ⟨g2<|aP _,λD C s' hD hC hDC h0 hL hcc hpp hst ⟨m',ns'⟩ J'=> ?_⟩;have fbD:Fb D=none:=Sb.sub.free hD
  have S9:StF X.K X.B₀ Fb (upd H3 D<|.lst ys) σ sd:=by
   refine⟨λb o g=>sF1 _ _<|S1.base _ _ g,λb o g=> ?_,λb o g=> ?_,S1.slots.mono sF1 λl hl=> ?_,S1.nd⟩
   ·rw[bI<|cC g fbD];exact Sb.sub _ _ g
   ·by_cases hb:b=D
    ·subst hb;rw[bV] at g;cases g;trivial
    ·rw[bI hb] at g;exact Sb.smp _ _ g
   ·rw[ho] at hl;cases hl
  have S10:=S9.setO i fbD bV rl (by rw[ho];simp);obtain⟨oC,esC,epC,hoC,rC⟩:=id ns';have nC:(upd H3 D<|.lst ys) C=none:=by rw[bI<|Ne.symm hDC];exact hC
  have Jp:Inv X (pins++[(C,oC)]) σ (upd H3 D<|.lst ys) s':=J'.pins_of λq hq=>(aM.mp hq).elim (λz=>J'.pin q<|aI _ z) λz=>by
   have z:q=(C,oC):=by simpa using z
   subst z
   exact ⟨hoC,nC,hL,fun y=>hst (by
    rcases J'.ok.stk with e|⟨e,_⟩
    ·rw[e];exact y
    ·rw[e];unfold frs;rw[fV];cases X.env.frame with
     |none=>exact y
     |some fr=>exact aF _ y),λv z=>by rw[rC.1] at z;cases z⟩
  show AK _ X.A (assign (.Name y py) X.env<|.ref D) _ _ _;refine wpAny_assign_Name (rY (v:=.ref D) (u:=.ref D) Jp hN hi (.inl hy) rfl (λs3 J3=> ?_)<|.inr hy);have pC:=J3.pin (C,oC) (aI _<|aI _ aG);refine⟨m',⟨oC,esC,epC,pC.1,rC⟩,λh' sb=> ?_⟩;have J4:Inv X pins _ (upd H3 D<|.lst ys) s3:=J3.pins_of λq hq=>J3.pin q (aI _<|aZ _ hq)
  have J5:Inv X pins _ (upd H3 D<|.lst ys) {s3 with heap:=h',toks:=s3.toks}:=J4.turned (it:=C) (λb o hb g=>sb.extBut b o hb g) nC hL (.inr h0) hcc hpp;refine⟨_,_,J5,_,Fb,S10,s1'.trans sF1, ?_⟩;have hE':=hE D;simpa using hE'
def stepNames:List Str:=["and","or","xor","add","take","copy","put","not","up","down"]
noncomputable def nm(k:Nat):Str:=stepNames.getD k "down"
noncomputable def iW(k:Nat)(i j n:Int):D:=if k<6 then .tup [.str<|nm k,.int i,.int j] else if k=6 then .tup [.str<|nm k,.int i,.int n] else .tup [.str<|nm k,.int i]
noncomputable def aKJ(k:Nat)(m a:Int):Int:=match k with
 |7=>m-1-a
 |8=>a*2%m
 |_=>a / 2
noncomputable def zL(k:Nat)(m a c:Int):Int:=match k with
 |0=>Builtin.bitAnd a c
 |1=>Builtin.bitOr a c
 |2=>Builtin.bitXor a c
 |3=>(a+c)%m
 |4=>(a-c)%m
 |_=>c
noncomputable def newW(k:Nat)(m a c n:Int):Int:=if k=6 then n else if 7<=k then aKJ k m a else zL k m a c
theorem aCQ:∀k,k<10->decide (V.str (nm k)=V.str "and")=decide (k=0):=by decide+kernel
theorem aHZ:∀k,k<10->decide (V.str (nm k)=V.str "or")=decide (k=1):=by decide+kernel
theorem aCy:∀k,k<10->decide (V.str (nm k)=V.str "xor")=decide (k=2):=by decide+kernel
theorem aCv:∀k,k<10->decide (V.str (nm k)=V.str "add")=decide (k=3):=by decide+kernel
theorem aAi:∀k,k<10->decide (V.str (nm k)=V.str "take")=decide (k=4):=by decide+kernel
theorem sN:∀k,k<10->decide (V.str (nm k)=V.str "put")=decide (k=6):=by decide+kernel
theorem zW:∀k,k<10->decide (V.str (nm k)=V.str "not")=decide (k=7):=by decide+kernel
theorem aFi:∀k,k<10->decide (V.str (nm k)=V.str "up")=decide (k=8):=by decide+kernel
theorem aCW:∀k,k<10->inV (V.str<|nm k) [V.str "not",V.str "up",V.str "down"]=decide (7<=k):=by decide+kernel
theorem aFJ:∀b,b<7->∀a,a<2^b->∀c,c<2^b->∀k,k<3->0<=zL k 0 ((a:Nat):Int) ((c:Nat):Int)/\zL k 0 ((a:Nat):Int) ((c:Nat):Int)<((2^b:Nat):Int):=by decide+kernel
theorem aNH{k:Nat}(h:k<3)(m a c:Int):zL k m a c=zL k 0 a c:=by
 match k,h with
 |0,_=>rfl
 |1,_=>rfl
 |2,_=>rfl
theorem aFN{b k:Nat}{a c n:Int}(hb:b<7)(hk:k<10)(ha:0<=a/\a<((2^b:Nat):Int))(hc:0<=c/\c<((2^b:Nat):Int))(hn:0<=n/\n<((2^b:Nat):Int)):0<=newW k ((2^b:Nat):Int) a c n/\newW k ((2^b:Nat):Int) a c n<((2^b:Nat):Int):=by
 have ea:a=((a.toNat:Nat):Int):=by omega
 have ec:c=((c.toNat:Nat):Int):=by omega
 have la:a.toNat<2^b:=by have:=ha.2;generalize 2^b=q at *;omega
 have lc:c.toNat<2^b:=by have:=hc.2;generalize 2^b=q at *;omega
 have tab:∀k,k<3->0<=zL k ((2^b:Nat):Int) a c/\zL k ((2^b:Nat):Int) a c<((2^b:Nat):Int):=λk hk=>by rw[aNH hk,ea,ec];exact aFJ b hb _ la _ lc k hk
 have mpos:(0:Int)<((2^b:Nat):Int):=by omega
 match k,hk with
 |0,_=>exact tab 0<|by decide
 |1,_=>exact tab 1<|by decide
 |2,_=>exact tab 2<|by decide
 |3,_=>exact⟨eW _<|lM mpos,dO _ mpos⟩
 |4,_=>exact⟨eW _<|lM mpos,dO _ mpos⟩
 |5,_=>exact hc
 |6,_=>exact hn
 |7,_=>show 0<=((2^b:Nat):Int)-1-a/\((2^b:Nat):Int)-1-a<((2^b:Nat):Int);generalize ((2^b:Nat):Int)=q at *;omega
 |8,_=>exact⟨eW _<|lM mpos,dO _ mpos⟩
 |9,_=>show 0<=a / 2/\a / 2<((2^b:Nat):Int);generalize ((2^b:Nat):Int)=q at *;omega
theorem aDQ{op op':CmpOp}{g g':Int->Int->Bool}{i j l:Int}(ho:OpR X (AS op) (rI0 λi j=>.bl<|g i j))(ho':OpR X (AS op') (rI0 λi j=>.bl<|g' i j))(ha:PEd X sd a (.val<|.int i))(hb:PEd X sd b (.val<|.int j))(hc:PEd X sd c (.val<|.int l))(hm:lastMarks [op,op'] [b,c]=false:=by with_unfolding_all rfl):PEd X sd (.Compare a [op,op'] [b,c] pos) (.val (.bl<|g i j&&g' j l)):=.mk λσ F H S=>
 (aGy ho ho' eY eY eY hm).to ((ha σ F H S).imp fun v H1 ⟨F1,S1,s1,q1⟩=>(hb σ F1 H1 S1).imp fun u H2 ⟨F2,S2,s2,q2⟩=>by
  simp only[ResOk,Rep] at q1 q2;refine⟨i,j,q1,q2,g i j,rfl, ?_⟩;cases hk:g i j with
  |true=>
   rw[if_pos rfl];refine(hc σ F2 H2 S2).imp λw H3 ⟨F3,S3,s3,q3⟩=> ?_
   simp only[ResOk,Rep] at q3;exact⟨j,l,q2,q3,F3,S3,s1.trans<|s2.trans s3,by simp only[ResOk,Rep,aBu]⟩
  |false=>
   rw[if_neg<|by decide]
   exact⟨F2,S2,s1.trans s2,by simp only[ResOk,Rep,pR]⟩)
theorem aCL{i j:Int}(ha:PEd X sd a (.val<|.int i))(hb:PEd X sd b (.val<|.int j)):PEd X sd (.Compare a [.Eq] [b] pos) (.val<|.bl (decide<|i=j)):=
 uK aLe ha hb trivial (fR _) λσ F H v u Q S q1 q2 k=>by
  simp only[ResOk,Rep] at q1 q2;subst q1;subst q2;refine⟨rfl, ?_⟩;have e:decide (V.int i=V.int j)=decide (i=j):=by rw[qK,pI]
  rw[e];exact k F H S<|Same.refl _
variable {o:Expr}
theorem PEd.ic{i j:Int}(h:PEd X sd e (.val<|.int i))(q:i=j):PEd X sd e (.val<|.int j):=q▸h
mutual
noncomputable def noL:D->Bool
 |.tup ds=>aKq ds
 |.lst _=>false
 |.scr _=>false
 |.dic=>false
 |.dki _ _=>false
 |.any _=>false
 |_=>true
noncomputable def aKq:List D->Bool
 |[]=>true
 |d::ds=>noL d&&aKq ds
end
noncomputable def del(F:Hp)(l:BG):Hp:=λb=>if b=l then none else F b
theorem vS{l b:BG}(h:b≠l):del F l b=F b:=by unfold del;rw[if_neg h]
theorem aBf{l:BG}:del F l l=none:=by unfold del;rw[if_pos rfl]
mutual
theorem Rep.del{K:aB}{F:Hp}{l:BG}{xs:List V}(hl:F l=some (.lst xs)):∀ {d:D}{v:V},noL d=true->Rep K F d v->Rep K (del F l) d v
 |.non,_,_,r=>by simpa only[Rep] using r
 |.bl _,_,_,r=>by simpa only[Rep] using r
 |.int _,_,_,r=>by simpa only[Rep] using r
 |.str _,_,_,r=>by simpa only[Rep] using r
 |.tup ds,v,h,r=>by
  simp only[Rep] at r ⊢;obtain⟨a,ys,e,q,rl⟩:=r
  have ne:a≠l:=λz=>by rw[z,hl] at q;cases q
  exact⟨a,ys,e,by rw[vS ne];exact q,RepL.del hl (by simpa only[noL] using h) rl⟩
 |.lst _,_,h,_=>by simp[noL] at h
 |.dic,_,h,_=>by simp[noL] at h
 |.dki _ _,_,h,_=>by simp[noL] at h
 |.any _,_,h,_=>by simp[noL] at h
 |.scr _,_,h,_=>by simp[noL] at h
theorem RepL.del{K:aB}{F:Hp}{l:BG}{xs:List V}(hl:F l=some (.lst xs)):∀ {ds:List D}{ys:List V},aKq ds=true->RepL K F ds ys->RepL K (del F l) ds ys
 |[],_,_,r=>by simpa only[RepL] using r
 |d::ds,ys,h,r=>by simp only[aKq,bC] at h;obtain⟨y,zs,rfl,a,rl⟩:=r.uncons;exact .cons (Rep.del hl h.1 a)<|RepL.del hl h.2 rl
end
theorem aAP{K:aB}{F H:Hp}:∀ {sd:List Slot}{σ:St},σ.length=sd.length->(∀ (k:Nat) (z:Slot),sd[k]? =some z->∃o,σ[k]? =some o/\gQ K F H z o)->SlotsOk K F H sd σ
 |[],[],_,_=>rfl
 |z::zs,o::r,hl,h=>by
  obtain⟨o',e,q⟩:=h 0 z rfl;have:o=o':=by simpa using e
  subst this
  exact ⟨o,r,rfl,q,aAP (by simpa using hl) fun k z hz=>by
   obtain⟨o',e,q⟩:=h (k+1) z (by simpa using hz)
   exact⟨o',by simpa using e,q⟩⟩
 |[],_::_,hl,_=>by simp at hl
 |_::_,[],hl,_=>by simp at hl
noncomputable def okS:Slot->Bool
 |.own _ ds=>aKq ds
 |.od _ _ ds=>aKq ds
 |.ox _ _=>false
 |_=>true
def Oth(sd:List Slot)(i:Nat):Prop:=∀ (k:Nat) (z:Slot),k≠i->sd[k]? =some z->okS z=true
variable {i:Nat}{l:BG}{xs:List V}
theorem StF.lend(S:StF K H₀ F H σ sd)(hs:sd[i]? =some (.own l ds))(hx:H l=some (.lst xs)):StF K H₀ (upd F l<|.lst xs) H σ (sd.set i (.val<|.lst ds)):=by obtain⟨o,h1,h2,n,ys,q,rl⟩:=S.slots.get hs;rw[hx] at q;cases q;have S0:=S.le<|gE sd i;obtain⟨S1,s1⟩:=S0.freeze hx n<|pB S.nd hs;have S2:=S1.set (d:=.lst ds) (v:=.ref l) i (by simp only[Rep];exact⟨l,xs,rfl,bV,rl.mono s1⟩);rw[iS,kE<|by rw[h1,h2]] at S2;exact S2
theorem StF.back(S:StF K H₀ F H σ sd)(hs:sd[i]? =some (.own l ds))(hx:H l=some (.lst xs))(ho:Oth sd i)(S':StF K H₀ F' H' σ (sd.set i (.val<|.lst ds)))(s:Same (upd F l<|.lst xs) F'):StF K H₀ (del F' l) H' σ sd/\Same F (del F' l)/\F' l=some (.lst xs):=by
 obtain⟨o,h1,h2,n,ys,q,rl⟩:=S.slots.get hs;rw[hx] at q;cases q;have fl:F' l=some (.lst xs):=s _ _ bV
 have sF:Same F (del F' l):=λb u e=>by have ne:b≠l:=cC e n;rw[vS ne];exact s _ _ (by rw[bI ne];exact e)
 refine⟨⟨λb u e=>sF _ _<|S.base _ _ e,λb u e=> ?_,S'.smp, ?_,S.nd⟩,sF,fl⟩
 ·by_cases h:b=l
  ·subst h;rw[aBf] at e;cases e
  ·rw[vS h] at e;exact S'.sub _ _ e
 ·refine aAP S.slots.len λk z hz=> ?_
  by_cases hk:k=i
  ·subst hk;rw[hs] at hz;cases hz;exact⟨o,h1,h2,aBf,xs,S'.sub _ _ fl,rl.mono sF⟩
  ·obtain⟨o1,g1,g2⟩:=S.slots.get hz;obtain⟨o2,g3,g4⟩:=S'.slots.get (i:=k) (z:=z) (by rw[iT<|Ne.symm hk];exact hz);rw[g1] at g3;cases g3;refine⟨o1,g1, ?_⟩;cases z with
   |un=>trivial
   |val d=>obtain⟨v,e,r⟩:=g2;exact⟨v,e,r.mono sF⟩
   |gh d G=>obtain⟨v,e,r,g⟩:=g2;exact⟨v,e,r.mono sF,λF2 s2=>g F2<|sF.trans s2⟩
   |own l' ds'=>
    obtain⟨e,n',ys,q',rl'⟩:=g4
    have ne:l'≠l:=λe2=>by rw[e2,fl] at n';cases n'
    exact⟨e,by rw[vS ne];exact n',ys,q',RepL.del fl (ho k _ hk hz) rl'⟩
   |od l' ks ds'=>
    obtain⟨e,n',ys,q',ln,rl'⟩:=g4
    have ne:l'≠l:=λe2=>by rw[e2,fl] at n';cases n'
    exact⟨e,by rw[vS ne];exact n',ys,q',ln,RepL.del fl (ho k _ hk hz) rl'⟩
   |ox ls G=>exact absurd (ho k _ hk hz) (by simp[okS])
theorem PTd.lend(i:Nat){k:Bool}(hs:sd[i]? =some (.own l ds))(ho:Oth sd i)(h:PTd X (sd.set i (.val<|.lst ds)) e k):PTd X sd e k:=.mk λσ F H S=>by
 obtain⟨o,h1,h2,n,xs,q,rl⟩:=S.slots.get hs;refine(h σ _ H<|S.lend hs q).imp λv H' ⟨e,F',S',s'⟩=> ?_
 obtain⟨S2,s2,fl⟩:=S.back hs q ho S' s';exact⟨e,del F' l,S2,s2⟩
theorem PTd.cast{k k':Bool}(h:PTd X sd e k)(q:k=k'):PTd X sd e k':=q▸h
noncomputable def aNt:List Slot->Nat->Bool
 |[],_=>true
 |_::zs,0=>zs.all okS
 |z::zs,i+1=>okS z&&aNt zs i
theorem aLp:∀ {sd:List Slot}{i:Nat},aNt sd i=true->Oth sd i
 |[],_,_,k,y,_,hz=>by simp at hz
 |z::zs,0,h,k,y,hk,hz=>by
  cases k with
  |zero=>exact absurd rfl hk
  |succ k=>exact cR.mp (show zs.all okS=true from h) _ (aK<|by simpa using hz)
 |z::zs,i+1,h,k,y,hk,hz=>by
  have h':(okS z&&aNt zs i)=true:=h;rw[bC] at h';cases k with
  |zero=>
   have:z=y:=by simpa using hz
   subst this;exact h'.1
  |succ k=>exact aLp h'.2 k y (λq=>hk<|by rw[q]) (by simpa using hz)
theorem aFu(i j:Nat){x y:Str}{p q:Pos}(hs:sd[j]? =some (.own l ds))(hN:X.N.Nodup)(hi:X.N[i]? =some x)(hx:Loc X.env.scope x)(hy:PE X (.Name y q) (jO j))(hE:E.nx ((sd.set j .un).set i<|.own l ds))(hsw:AX (.Name y q) (some<|.Name x p) pos.line X.env=pure false:=by rfl)
  (hf:X.fn x=true\/X.env.scope.names.lookup x=some .local:=by first|exact .inl rfl|exact .inr rfl|assumption):PSd1 X sd (.Assign [.Name x p] (.Name y q) pos) E:=.mk λσ F H S=>
 (nY hN hi hx hy hsw hf).to (by
  obtain⟨o,h1,h2,n,xs,g,rl⟩:=S.slots.get hs
  exact⟨.ref l,by rw[h1,h2],_,F,(S.le (gE sd j)).setO i n g rl (pB S.nd hs),Same.refl _,hE⟩)
theorem aEH:kG X (.type "int") (λxs H Q=>∃k,xs=[.bl k]/\Q (.int (if k then 1 else 0)) H):=by intro pins s σ H xs us Q I r h;obtain⟨k,rfl,q⟩:=h;obtain⟨u,rfl,ru⟩:=oE r;cases(show u=Value.bool k from ru);exact call_int_bool ⟨.int _,H,I.kept λb o g=>g,⟨_,rfl⟩,q⟩
theorem aDF{p:Pos}{k:Bool}(hg:Gl X "int")(hm:X.mg "int"=none)(ha:PEd X sd e (.val<|.bl k))(hst:AC [e] X.env=(false,eval e X.env)::AC [] X.env:=by rfl):PEd X sd (.Call (.Name "int" p) [e] [] pos) (.val<|.int (if k then 1 else 0)):=
 yB (he:=hst) aEH hg hm PyProof.Rows.boot_int (aC ha aO trivial hst) λσ F H vs Q S q kk=>by
  cases q with
  |cons q1 q2=>cases q2;simp only[ResOk,Rep] at q1;subst q1;exact⟨k,rfl,kk _ F H S (Same.refl _)<|by simp only[ResOk,Rep]⟩
theorem aDR(hc:X.calm=true):kG X (.builtin "sum") (λxs H Q=>∃ (a:BG) (ns:List Int),xs=[.ref a]/\SqL X.K H a (ns.map V.int)/\Q (.int<|preSum (λi=>ns.getD i 0) ns.length) H):=by
 intro pins s σ H xs us Q I r h;obtain⟨a,ns,rfl,ha,q⟩:=h;obtain⟨u,rfl,ru⟩:=oE r;cases ru;obtain⟨its,rv,p,hz⟩:=I.list ha;have hl:=rv.length;rw[aA] at hl;have isl:s.heap.IsList a its.toArray:=p.isList;have alt:a<s.heap.objs.size:=by obtain⟨o,ho,_⟩:=isl;exact aR ho
 refine call_sum_walkAnyS<|Ay isl ?_;refine⟨s.heap.objs.size,_,_,_,its.toArray.size,_,_,λi=>ns.getD i 0,rfl,(Walks.list (A:=X.A.in1) (I.ok.hd hc) s.heap.objs.size a (bN alt) its.toArray).toS,⟨⟨_,bK _ rfl,rfl,rfl⟩,isl.push _⟩,λb hb=> ?_,λi v hv=>(aJP rv<|by simpa using hv).2,λs' t' hm=> ?_⟩
 ·show b<(s.heap.push _).objs.size;rw[size_push']
  rcases aU.mp hb with e|hb
  ·rw[e];exact kO _
  ·have e:b=a:=by simpa using hb
   rw[e];exact mK alt
 ·rw[Moved.eq_with hm];have sz:its.toArray.size=ns.length:=by rw[aY,hl]
  rw[sz];refine⟨.int _,H,I.kept λb o g=>hm.heap b o (λhI=> ?_)<|aJ _ g,⟨_,rfl⟩,q⟩;have e:b=s.heap.objs.size:=by simpa using hI
  exact absurd (aR g) (by rw[e];exact eD _)
theorem aJw{p:Pos}{ns:List Int}(hg:Gl X "sum")(hm:X.mg "sum"=none)(ha:PEd X sd e (.bor<|ns.map D.int))(hc:X.calm=true:=by rfl)(hst:AC [e] X.env=(false,eval e X.env)::AC [] X.env:=by rfl):PEd X sd (.Call (.Name "sum" p) [e] [] pos) (.val (.int<|preSum (λi=>ns.getD i 0) ns.length)):=
 mC (he:=hst) (aDR hc) hg hm boot_sum (aC ha aO trivial hst) λσ F H vs Q S q k=>by
  cases q with
  |cons q1 q2=>cases q2;obtain⟨p,xs,rfl,hp,rl,_⟩:=q1;exact⟨p,ns,rfl,.of (by rw[<-rl.ints];exact hp),k _ F H S (Same.refl _)<|by simp only[ResOk,Rep]⟩
def aIk:List D->R->Prop:=λds r=>∃ (ns:List Int) (k:Nat),ds=[.scr ns,.int (k:Int)]/\k<=1000/\r=.val (.int<|ns.getD k 0)
noncomputable abbrev SQ:=Nat×Int×Int×Int
noncomputable def sqD(q:SQ):D:=iW q.1 q.2.1 q.2.2.1 q.2.2.2
structure pZ(p:Int×Int)(q:SQ):Prop where
 sz:p∈bO
 k10:q.1<10
 i0:0<=q.2.1/\q.2.1<p.2
 j0:0<=q.2.2.1/\q.2.2.1<p.2
 n0:0<=q.2.2.2/\q.2.2.2<((2^p.1.toNat:Nat):Int)
theorem pw0(n:Nat):(0:Int)<((2^n:Nat):Int):=by have:0<2^n:=Nat.pow_pos (by decide);generalize 2^n=q at this ⊢;omega
noncomputable abbrev SK:=SQ×Int
noncomputable def skD(s:SK):D:=.tup [sqD s.1,.int s.2]
structure StkOk(p:Int×Int)(L:List SK):Prop where
 pos:0<L.length
 le:L.length<=8
 st:∀s∈L,pZ p s.1/\1<=s.2/\s.2<=9
structure Fil(p:Int×Int)(ws:List Int):Prop where
 len:ws.length=p.2.toNat
 wd:∀w∈ws,0<=w/\w<((2^p.1.toNat:Nat):Int)
noncomputable def nwQ(p:Int×Int)(q:SQ)(ws:List Int):Int:=newW q.1 ((2^p.1.toNat:Nat):Int) (ws.getD q.2.1.toNat 0) (ws.getD q.2.2.1.toNat 0) q.2.2.2
noncomputable def onQ(p:Int×Int)(q:SQ)(ws:List Int):List Int:=ws.set q.2.1.toNat<|nwQ p q ws
theorem aIW{p:Int×Int}{q:SQ}{ws:List Int}(O:pZ p q)(G:Fil p ws):0<=nwQ p q ws/\nwQ p q ws<((2^p.1.toNat:Nat):Int):=by obtain⟨h1,h2,h3,h4,h5⟩:=vT p O.sz;exact aFN (by omega) O.k10 (G.wd _ (getD_mem<|by have:=O.i0;rw[G.len];omega)) (G.wd _ (getD_mem<|by have:=O.j0;rw[G.len];omega)) O.n0
theorem zA{p:Int×Int}{q:SQ}{ws:List Int}(O:pZ p q)(G:Fil p ws):Fil p (onQ p q ws):=by
 refine⟨by unfold onQ;rw[aKt];exact G.len,λw hw=> ?_⟩
 rcases List.mem_or_eq_of_mem_set hw with hw|rfl
 ·exact G.wd w hw
 ·exact aIW O G
theorem rS{p:Int×Int}(hp:p∈bO){ws:List Int}(h:ws∈hW (2^p.1.toNat) p.2.toNat):Fil p ws:=by
 have g:∀ (m k:Nat),∀s∈hW m k,s.length=k/\∀x∈s,0<=x/\x<(m:Int):=λm k=>by
  induction k with
  |zero=>
   intro s h;have:s=[]:=by simpa[hW] using h
   subst this;exact⟨rfl,λx hx=>by cases hx⟩
  |succ k ih=>
   intro s h;obtain⟨t,ht,hs⟩:=dI.mp h;obtain⟨w,hw,rfl⟩:=aQ.mp hs;obtain⟨a,b⟩:=ih t ht;refine⟨by rw[aN,a];rfl,λx hx=> ?_⟩
   rcases aM.mp hx with hx|hx
   ·exact b x hx
   ·have e:x=(w:Int):=by simpa using hx
    have:=cE.mp hw;omega
 obtain⟨a,b⟩:=g _ _ ws h;exact⟨a,b⟩
noncomputable def cD(row:List Nat):List D:=row.map λ(t:Nat)=>D.int (t:Int)
noncomputable def aHP(L:List SK)(row:List Nat):List Int:=row.map λt=>(L.getD t AN).2
noncomputable def aHT(l:List Int):Int:=preSum (λi=>l.getD i 0) l.length
def aHA:List D->R->Prop:=λds r=>∃ (L:List SK) (row:List Nat),(∀t∈row,t<L.length)/\row.length<=500/\ds=[.lst<|L.map skD,.tup<|cD row]/\r=.val (.int (aHT<|aHP L row))
theorem wK{f g:Nat->Int}:∀n,(∀i,i<n->f i=g i)->preSum f n=preSum g n
 |0,_=>rfl
 |n+1,h=>by show preSum f n+f n=preSum g n+g n;rw[wK n λi hi=>h i<|by omega,h n<|by omega]
theorem aEg(l:List Int)(x:Int):aHT (l++[x])=aHT l+x:=by unfold aHT;rw[aN];show preSum _ l.length+_=_;rw[wK (g:=λi=>l.getD i 0) l.length λi hi=>by simp[cB,cU hi]];simp[cB]
mutual
theorem oB:∀d:D,pl d=true->deq d d=true
 |.non,_=>rfl
 |.bl b,_=>by simp[deq]
 |.int i,_=>by simp[deq]
 |.str x,_=>by simp[deq]
 |.tup ds,h=>by simp only[deq];exact sT ds (by simpa only[pl] using h)
 |.lst ds,h=>by simp only[deq];exact sT ds (by simpa only[pl] using h)
 |.dic,h=>by simp[pl] at h
 |.dki _ _,h=>by simp[pl] at h
 |.any _,h=>by simp[pl] at h
 |.scr _,h=>by simp[pl] at h
theorem sT:∀ds:List D,plL ds=true->lJ ds ds=true
 |[],_=>rfl
 |d::ds,h=>by simp only[plL,bC] at h;simp only[lJ,bC];exact⟨oB d h.1,sT ds h.2⟩
end
theorem aIK{row:List Nat}{k:Nat}(h:(cD row)[k]? =some d):k<row.length/\d=.int ((row.getD k 0:Nat):Int):=by
 unfold cD at h;rw[aS] at h;cases e:row[k]? with
 |none=>rw[e] at h;cases h
 |some z=>rw[e] at h;refine⟨(aD.mp e).1, ?_⟩;rw[<-bS.inj h,cB,e];rfl
theorem aGT{L:List SK}{t:Nat}(h:t<L.length):(L.map skD)[t]? =some (skD<|L.getD t AN):=by rw[aS];simp[cB,h]
theorem oA(L:List (List Int))(m:Nat):(L.flatMap λs=>(bM m).map λ(w:Nat)=>s++[(w:Int)]).length=L.length*m:=by
 induction L with
 |nil=>simp
 |cons s L ih=>rw[List.flatMap_cons,aN,ih,aA,fN,bU,aEZ,Nat.add_comm]
theorem rL:∀ (m k:Nat),(hW m k).length=m^k
 |_,0=>rfl
 |m,k+1=>by show((hW m k).flatMap _).length=_;rw[oA,rL m k,aOW]
theorem vX:∀ (m k:Nat),∀s∈hW m k,s.length=k
 |_,0,s,h=>by
  have:s=[]:=by simpa[hW] using h
  subst this;rfl
 |m,k+1,s,h=>by obtain⟨t,ht,hs⟩:=dI.mp h;obtain⟨w,_,rfl⟩:=aQ.mp hs;rw[aN,vX m k t ht];rfl
theorem yG:∀p∈bO,∀k,k<p.2.toNat->((2^p.1.toNat)^k)*2^p.1.toNat<=900:=by decide+kernel
theorem jB{p:Int×Int}(hp:p∈bO):(hW (2^p.1.toNat) p.2.toNat).length<=64:=by
 have:∀p∈bO,(2^p.1.toNat)^p.2.toNat<=64:=by decide+kernel
 rw[rL];exact this p hp
theorem uZ{L:List (List Int)}(h:d∈L.map bJ):∃ws∈L,d=bJ ws:=by obtain⟨ws,hw,rfl⟩:=aQ.mp h;exact⟨ws,hw,rfl⟩
noncomputable def lR:D->List Int
 |.tup ds=>ds.map λd=>match d with | .int i=>i|_=>0
 |_=>[]
theorem jV(ws:List Int):lR (bJ ws)=ws:=by
 show(ws.map D.int).map _=ws;rw[bB]
 induction ws with
 |nil=>rfl
 |cons w ws ih=>rw[bA,ih];rfl
noncomputable def isN:D->Bool
 |.non=>true
 |_=>false
theorem zN(h:Rep K H d v):decide (v=.non)=isN d:=by
 cases d with
 |non=>simp only[Rep] at h;subst h;rfl
 |bl=>simp only[Rep] at h;subst h;rfl
 |int=>simp only[Rep] at h;subst h;rfl
 |str=>simp only[Rep] at h;subst h;rfl
 |tup=>simp only[Rep] at h;obtain⟨a,xs,rfl,_⟩:=h;rfl
 |lst=>simp only[Rep] at h;obtain⟨a,xs,rfl,_⟩:=h;rfl
 |dic=>simp only[Rep] at h;obtain⟨a,rfl,_⟩:=h;rfl
 |dki=>simp only[Rep] at h;obtain⟨a,xs,rfl,_⟩:=h;rfl
 |any=>simp only[Rep] at h;obtain⟨⟨a,rfl⟩,_⟩:=h;rfl
 |scr=>simp only[Rep] at h;obtain⟨a,rfl,_⟩:=h;rfl
theorem uE(ha:PEd X sd a (.val d))(hb:PEd X sd b (.val .non)):PTd X sd (.Compare a [.Is] [b] pos) (isN d):=
 kB aHb ha hb trivial (fR _) λσ F H v u Q S q1 q2 k=>by simp only[ResOk,Rep] at q2;have q1:Rep _ _ _ _:=q1;exact⟨q2,by rw[zN q1];exact k F H S<|Same.refl _⟩
theorem aAX(ha:PEd X sd a (.val d))(hb:PEd X sd b (.val .non)):PTd X sd (.Compare a [.IsNot] [b] pos) (!isN d):=
 kB aIR ha hb trivial (fR _) λσ F H v u Q S q1 q2 k=>by simp only[ResOk,Rep] at q2;have q1:Rep _ _ _ _:=q1;exact⟨q2,by rw[zN q1];exact k F H S<|Same.refl _⟩
theorem aHe(ha:PEd X sd a (.val d))(hb:PEd X sd b (.val .non)):PEd X sd (.Compare a [.Is] [b] pos) (.val (.bl<|isN d)):=
 uK aHb ha hb trivial (fR _) λσ F H v u Q S q1 q2 k=>by simp only[ResOk,Rep] at q2;have q1:Rep _ _ _ _:=q1;exact⟨q2,by rw[zN q1];exact k F H S<|Same.refl _⟩
theorem aKV{u d n c:Nat}(h:u+n<c)(hd:d+1<=n):u+d+1<c:=by omega
noncomputable def bQ(p:Int×Int):List (List Int):=hW (2^p.1.toNat) p.2.toNat
noncomputable def aNe:Option (List Int)->D
 |none=>.non
 |some ws=>bJ ws
structure aFm(p:Int×Int)(T:List (List Int)):Prop where
 len:T.length=(bQ p).length
 fil:∀ws∈T,Fil p ws
theorem zC{V:List (List Int)}{k:Nat}(h:k<V.length):(V.map bJ)[k]? =some (bJ<|V.getD k []):=by simp[cB,h]
theorem yI{α:Type}{L:List α}{k:Nat}(d:α)(h:k<L.length):L.take (k+1)=L.take k++[L.getD k d]:=by rw[eM];simp[cB,h]
theorem aEm(d:D)(ds:List D)(p1:pl d=true)(p2:plL ds=true)(hu:X.A.units+1+iQ ds<AO):OpR X (AS .NotIn) (λx y H Q=>Rep X.K H (.lst ds) y/\Rep X.K H d x/\Q (.bl<|!ds.any λz=>deq z d) H):=by
 intro pins s σ H x y v u Q I rx ry h;obtain⟨hl,hd,k⟩:=h;obtain⟨a,xs,its,rfl,rfl,rl,rv,ht⟩:=kK I.hok hl ry
 have hat:∀ (j:Nat) (w:BE),its[j]? =some w->∃z v,ds[j]? =some z/\xs[j]? =some v/\Rep X.K H z v/\RelV v w:=λj w hw=>by
  have hj:j<its.length:=(aD.mp hw).1;have hx:j<xs.length:=by rw[Vals.length rv];exact hj
  have hd:j<ds.length:=by rw[<-rl.len];exact hx
  obtain⟨v,hv,rz⟩:=rl.get (i:=j) (d:=ds[j]) (by simp[hd])
  exact ⟨ds[j],v,by simp [hd],hv,rz,by
   have:=rv.get hv;obtain⟨w',hw',r⟩:=this;rw[hw] at hw';cases hw'
   exact r⟩
 have dc:=λw:BE=>Classical.propDecidable (∃ (j:Nat) (z:D),its[j]? =some w/\ds[j]? =some z/\deq z d=true)
 refine SeqAt.notIn_listAt (λw=> @decide _<|dc w) ht (λw hw=> ?_) ⟨.bl _,H,I,rfl, ?_⟩
 ·by_cases q:∃ (j:Nat) (z:D),its[j]? =some w/\ds[j]? =some z/\deq z d=true
  ·obtain⟨j,z,e1,e2,e3⟩:=q;obtain⟨z',v,f1,f2,f3,f4⟩:=hat j w e1;rw[e2] at f1;cases f1;have: @decide _ (dc w)=true:=by rw[decide_eq_true_eq];exact⟨j,z,e1,e2,e3⟩
   rw[this,<-e3];exact aAA I.hok z (zZ p2 e2) p1 f3 hd f4 rx (by have:=uT e2;show X.A.units+1+dep z<AO;omega)
  ·have hw':w∈its:=by simpa using hw
   obtain⟨j,hj,rfl⟩:=cI hw';obtain⟨z,v,f1,f2,f3,f4⟩:=hat j its[j] (by simp[hj])
   have e3:deq z d=false:=by
    cases h:deq z d with
    |false=>rfl
    |true=>exact(q ⟨j,z,by simp[hj],f1,h⟩).elim
   have: @decide _ (dc its[j])=false:=by rw[decide_eq_false_iff_not];exact q
   rw[this,<-e3];exact aAA I.hok z (zZ p2 f1) p1 f3 hd f4 rx (by have:=uT f1;show X.A.units+1+dep z<AO;omega)
 ·have e:its.toArray.any (λw=> @decide _<|dc w)=ds.any λz=>deq z d:=by
   rw[gM,List.any_toArray,fC,fC]
   constructor
   ·rintro⟨w,hw,q⟩;rw[decide_eq_true_eq] at q;obtain⟨j,z,e1,e2,e3⟩:=q;exact⟨z,aK e2,e3⟩
   ·rintro⟨z,hz,e3⟩;obtain⟨j,hj,rfl⟩:=cI hz;have hi:j<its.length:=by rw[<-Vals.length rv,rl.len];exact hj
    exact⟨its[j],fZ hi,by rw[decide_eq_true_eq];exact⟨j,ds[j],by simp[hi],by simp[hj],e3⟩⟩
  rw[e];exact k
theorem aAS(ha:PEd X sd a (.val d))(hb:PEd X sd b (.val<|.lst ds))(p1:pl d=true)(p2:plL ds=true)(hu:X.A.units+1+iQ ds<AO)(hk:AT .NotIn b=false:=by with_unfolding_all rfl):PTd X sd (.Compare a [.NotIn] [b] pos) (!ds.any λz=>deq z d):=
 kB (aEm d ds p1 p2 hu) ha hb trivial hk λσ F H x u Q S q1 q2 k=>⟨Rep.mono S.sub q2,Rep.mono S.sub q1,k F H S<|Same.refl _⟩
variable {es:List D}
theorem RepL.atI{i:Int}(r:RepL K H ds xs)(h:L2.atI ds i=some d):∃v,L2.atI xs i=some v/\Rep K H d v:=by
 unfold L2.atI at h ⊢;rw[r.len];cases e:ixN ds.length i with
 |none=>rw[e] at h;cases h
 |some j=>rw[e] at h;exact r.get h
theorem aKd{i:Int}(ha:PEd X sd a (.bor ds))(hb:PEd X sd b (.val<|.int i))(hd:atI ds i=some d)(hs:mQ b):PEd X sd (.Subscript a b pos) (.val d):=.mk λσ F H S=>
 (aFn aAg eY eY hs).to ((ha σ F H S).imp fun v H1 ⟨F1,S1,s1,q1⟩=>(hb σ F1 H1 S1).imp fun u H2 ⟨F2,S2,s2,q2⟩=>by
  obtain⟨p,xs,e1,hp,rl,_⟩:=ResOk.keep (r:=.bor ds) trivial q1 S2 s2;simp only[ResOk,Rep] at q2;obtain⟨w,hw,rw'⟩:=rl.atI hd
  exact⟨p,xs,i,w,e1,q2,.of hp,hw,F2,S2,s1.trans s2,rw'⟩)
theorem aMN{τ:List Nat}{b:Nat}(h:b<τ.length):(cD τ)[b]? =some (.int ((τ.getD b 0:Nat):Int)):=by unfold cD;rw[aS];simp[cB,h]
theorem zP{k:Nat}{q:Nat}{p:Pos}(hb:PEd X sd b (.val<|.int (k:Int)))(hk:k<=1000):PEd X sd (.BinOp (.Constant (.int 1) q p) .LShift b pos) (.val<|.int ((2^k:Nat):Int)):=
 PEd.ic (dY aHm bX hb ⟨by omega,by omega,by decide⟩) (by rw[Int.one_mul,dX];push_cast;rfl)
theorem vW:∀ {sd:List Slot}{i:Nat}{z:Slot},(cA sd).Nodup->sd[i]? =some z->(gO z).Nodup
 |[],_,_,_,e=>by simp at e
 |y::zs,0,z,h,e=>by
  have:y=z:=by simpa using e
  subst this;exact(bE.mp (show(gO y++cA zs).Nodup from h)).1
 |y::zs,i+1,z,h,e=>vW (sd:=zs) (i:=i) (bE.mp (show(gO y++cA zs).Nodup from h)).2.1 (by simpa using e)
variable {ls:List BG}{nss:List (List Int)}
theorem StF.setX{as:List BG}{G:V->Hp->Hp->Prop}(S:StF K H₀ F H σ sd)(i:Nat)(q:gQ K F H (.ox as G) (some v))(nd:as.Nodup)(no:∀a∈as,a∉cA sd):StF K H₀ F H (σ.set i (some v)) (sd.set i<|.ox as G):=
 ⟨S.base,S.sub,S.smp,S.slots.set (z:=.ox as G) q i,(iO (z:=.ox as G) i S.nd (λl e=>.inl<|no l e) nd).1⟩
theorem StF.reX{z z':Slot}{o:Option V}(S:StF K H₀ F H σ sd)(hs:sd[i]? =some z)(ho:σ[i]? =some o)(keep:∀b ob,b∉gO z->H b=some ob->H' b=some ob)(sm:Smp H')(q:gQ K F H' z' o)(nd:(gO z').Nodup)(no:∀a∈gO z',a∈gO z\/a∉cA sd):StF K H₀ F H' σ (sd.set i z'):=by
 have S0:=S.le<|gE sd i;have mz:∀a∈gO z,a∈cA sd:=λa ha=>dI.mpr ⟨z,aK hs,ha⟩
 refine⟨S.base,λb u e=> ?_,sm, ?_, ?_⟩
 ·refine keep b u (λhb=> ?_)<|S.sub _ _ e;have:=(S.slots.owns<|mz b hb).1;rw[e] at this;cases this
 ·have q1:SlotsOk K F H' (sd.set i .un) σ:=S0.slots.mono (Same.refl _) λa ha=>⟨(S0.slots.owns ha).1,λob e=>keep a ob (λhb=>gX S.nd hs hb ha) e⟩
  have q2:=q1.set (z:=z') (o:=o) q i;rw[iS,kE ho] at q2;exact q2
 ·have:=iO (z:=z') i S0.nd (fun a ha=>by
   rcases no a ha with h|h
   ·exact .inl<|gX S.nd hs h
   ·exact .inl λhm=>h ((gE sd i).own.subset hm)) nd
  rw[iS] at this;exact this.1
noncomputable def inF(F H:Hp)(as:List BG):Hp:=λb=>if b∈as then H b else F b
theorem aCD{as:List BG}{b:BG}(h:b∈as):inF F H as b=H b:=if_pos h
theorem aAD{as:List BG}{b:BG}(h:b∉as):inF F H as b=F b:=if_neg h
theorem aJE{as:List BG}(h:∀a∈as,F a=none):Same F (inF F H as):=λb u e=>by rw[aAD λhb=>by rw[h b hb] at e;cases e];exact e
theorem StF.inN(S:StF K H₀ F H σ sd)(h0:∀a∈l::ls,F a=none)(no:∀a∈l::ls,a∉cA sd):StF K H₀ (inF F H (l::ls)) H σ sd/\Same F (inF F H (l::ls)):=by
 have s1:=aJE (H:=H) h0;refine⟨⟨λb u e=>s1 _ _<|S.base _ _ e,λb u e=> ?_,S.smp,S.slots.mono s1 λa ha=>⟨?_,λob e=>e⟩,S.nd⟩,s1⟩
 ·by_cases h:b∈l::ls
  ·rw[aCD h] at e;exact e
  ·rw[aAD h] at e;exact S.sub _ _ e
 ·rw[aAD λhb=>no a hb ha];exact(S.slots.owns ha).1
variable {es:List Expr}{ns:List Int}
theorem aKe(h:Smp H)(a:BG):Smp (upd H a<|.lst xs):=λb u e=>by
 by_cases z:b=a
 ·subst z;rw[bV] at e;cases e;trivial
 ·rw[bI z] at e;exact h _ _ e
noncomputable def isA(a:BG):Slot:=.ox [] λv _ _=>v=.ref a
theorem zD{j:Nat}{a:BG}(S:StF K H₀ F H σ sd)(hs:sd[j]? =some (isA a)):σ[j]? =some (some<|.ref a):=by
 obtain⟨o,h1,v,h2,h3,h4⟩:=S.slots.get hs;have e:=h4 F H (Same.refl _) λ_ _ _ q=>q
 subst e h2;exact h1
noncomputable def InD(K:aB)(F H:Hp):List BG->List (List D)->Prop
 |[],[]=>True
 |a::as,ds::dss=>(∃xs,H a=some (.lst xs)/\RepL K F ds xs)/\InD K F H as dss
 |_,_=>False
theorem InD.len:∀ {as:List BG}{dss:List (List D)},InD K F H as dss->as.length=dss.length
 |[],[],_=>rfl
 |[],_::_,h=>h.elim
 |_::_,[],h=>h.elim
 |_::as,_::dss,h=>by rw[bU,bU,InD.len h.2]
theorem InD.of:∀ {as:List BG}{dss:List (List D)},InD K F H as dss->∀a∈as,∃xs,H a=some (.lst xs)
 |[],[],_,a,ha=>by cases ha
 |[],_::_,h,_,_=>h.elim
 |_::_,[],h,_,_=>h.elim
 |b::as,_::dss,h,a,ha=>by
  rcases aU.mp ha with rfl|ha
  ·exact⟨h.1.choose,h.1.choose_spec.1⟩
  ·exact InD.of h.2 a ha
variable {dss:List (List D)}
theorem InD.mono2:∀ {as:List BG}{dss:List (List D)},InD K F H as dss->Same F F'->(∀a∈as,∀ob,H a=some ob->H' a=some ob)->InD K F' H' as dss
 |[],[],_,_,_=>trivial
 |[],_::_,h,_,_=>h.elim
 |_::_,[],h,_,_=>h.elim
 |a::as,_::dss,h,s,k=>by obtain⟨⟨xs,e,r⟩,h2⟩:=h;exact⟨⟨xs,k a aG _ e,r.mono s⟩,InD.mono2 h2 s λb hb=>k b<|aF _ hb⟩
theorem InD.get:∀ {as:List BG}{dss:List (List D)}{t:Nat}{a:BG},InD K F H as dss->as[t]? =some a->∃ds xs,dss[t]? =some ds/\H a=some (.lst xs)/\RepL K F ds xs
 |[],[],t,a,_,e=>by simp at e
 |[],_::_,_,_,h,_=>h.elim
 |_::_,[],_,_,h,_=>h.elim
 |b::as,ds::dss,0,a,h,e=>by
  have:b=a:=by simpa using e
  subst this;obtain⟨⟨xs,e1,r⟩,_⟩:=h;exact⟨ds,xs,rfl,e1,r⟩
 |b::as,ds::dss,t+1,a,h,e=>by obtain⟨ms,xs,e1,e2⟩:=InD.get (t:=t) h.2 (by simpa using e);exact⟨ms,xs,by simpa using e1,e2⟩
theorem InD.set:∀ {as:List BG}{dss:List (List D)}{t:Nat}{a:BG}{es:List D}{ys:List V},as.Nodup->InD K F H as dss->as[t]? =some a->RepL K F es ys->InD K F (upd H a<|.lst ys) as (dss.set t es)
 |[],[],t,a,_,_,_,_,e,_=>by simp at e
 |[],_::_,_,_,_,_,_,h,_,_=>h.elim
 |_::_,[],_,_,_,_,_,h,_,_=>h.elim
 |b::as,ds::dss,0,a,es,ys,nd,h,e,r=>by
  have:b=a:=by simpa using e
  subst this;refine⟨⟨ys,bV,r⟩,h.2.mono2 (Same.refl _) λc hc ob q=> ?_⟩;rw[bI (show c≠b from λz=>(bH.mp nd).1<|z▸hc)];exact q
 |b::as,ds::dss,t+1,a,es,ys,nd,h,e,r=>by
  have e':as[t]? =some a:=by simpa using e
  obtain⟨⟨xs,e1,r1⟩,h2⟩:=h;refine⟨⟨xs, ?_,r1⟩,InD.set (bH.mp nd).2 h2 e' r⟩;rw[bI (show b≠a from λz=>(bH.mp nd).1<|z▸aK e')];exact e1
noncomputable def qA(f:Nat->Bool)(A:List (List Int)):Option (List Int):=((bM A.length).find? f).map λk=>A.getD k []
theorem aBQ{f:Nat->Bool}{A:List (List Int)}{k:Nat}(hk:k<A.length)(h:f k=true)(hn:∀j,j<k->f j=false):qA f A=some (A.getD k []):=by
 unfold qA
 have:(bM A.length).find? f=some k:=by rw[List.find?_range_eq_some];exact⟨h,cE.mpr hk,λj hj=>by rw[hn j hj];rfl⟩
 rw[this];rfl
theorem uV{f:Nat->Bool}{A:List (List Int)}(hn:∀j,j<A.length->f j=false):qA f A=none:=by unfold qA;rw[sE.mpr λk hk=>by rw[hn k<|cE.mp hk];simp];rfl
theorem vU{α:Type}(f:α->D)(h:∀a,pl (f a)=true):∀l:List α,plL (l.map f)=true
 |[]=>rfl
 |a::l=>by show(pl (f a)&&plL (l.map f))=true;rw[h a,vU f h l];rfl
theorem sR{α:Type}(f:α->D)(n:Nat)(h:∀a,dep (f a)<=n):∀l:List α,iQ (l.map f)<=n
 |[]=>bP _
 |a::l=>Nat.max_le.mpr ⟨h a,sR f n h l⟩
noncomputable def wsD:Option (List<|List Int)->D
 |none=>.non
 |some L=>.lst<|L.map bJ
def WsOk(p:Int×Int)(o:Option (List<|List Int)):Prop:=∀L,o=some L->0<L.length/\L.length<=100/\∀ws∈L,Fil p ws
structure mR(p:Int×Int)(w:List (Option (List<|List Int))):Prop where
 len:w.length=(bQ p).length
 ok:∀o∈w,WsOk p o
theorem aNM{w:List (Option (List<|List Int))}{k:Nat}(h:k<w.length):(w.map wsD)[k]? =some (wsD<|w.getD k none):=by simp[cB,h]
theorem aJj(o:Option (List Int)):isN (aNe o)=o.isNone:=by cases o<;>rfl
noncomputable def aKr(w:List (Option (List<|List Int)))(T:List (List Int))(k:Nat):Bool:=match w.getD k none with
 |none=>false
 |some L=> !decide (T.getD k []∈L)
noncomputable def rB(w:List (Option (List<|List Int)))(A T:List (List Int)):Option (List Int):=qA (aKr w T) A
def aKP:List D->R->Prop:=λds r=>∃p w T,p∈bO/\mR p w/\aFm p T/\ds=[cK p,.lst<|w.map wsD,.tup<|T.map bJ]/\r=.val (aNe<|rB w (bQ p) T)
def aKS:List D->R->Prop:=λds r=>∃p w T,p∈bO/\mR p w/\aFm p T/\ds=[cK p,.lst<|w.map wsD,.tup<|T.map bJ]/\r=.val (.bl (rB w (bQ p) T).isNone)
theorem aGf(L:List (List Int))(t:List Int):((L.map bJ).any λz=>deq z<|bJ t)=decide (t∈L):=by
 induction L with
 |nil=>simp
 |cons a L ih=>
  rw[bA,kN,ih,aAW]
  by_cases h:t=a
  ·simp[h]
  ·have h2:¬ a=t:=λq=>h q.symm
   simp[h,h2]
theorem oJ:∀a:List Nat,plL (cD a)=true/\iQ (cD a)=0
 |[]=>⟨rfl,rfl⟩
 |a::as=>by obtain⟨h1,h2⟩:=oJ as;unfold cD at h1 h2 ⊢;simp only[bA,plL,iQ,pl,dep,h1,h2];exact⟨rfl,rfl⟩
theorem aFG(h:BI)(vs:List BE)(out:Array BE):(∀b x,h.get? b=some x->(sortedAll h vs out).get? b=some x)/\∃n,(sortedAll h vs out).get? (h.objs.size+1)=some (Ag "list" out n):=by
 have hsz:((h.push<|Ag "list" #[] 0).update h.objs.size (Obj.mapSeq (·++vs.toArray))).objs.size=h.objs.size+1:=by rw[nR,size_push']
 have hoL:(((h.push<|Ag "list" #[] 0).update h.objs.size (Obj.mapSeq (·++vs.toArray))).push<|Ag "list" vs.toArray 0).get? (h.objs.size+1)=some (Ag "list" vs.toArray 0):=by rw[<-hsz];exact bK _ rfl
 constructor
 ·intro b x g;have lt:=aR g;have n1:h.objs.size≠b:=λz=>absurd lt (by rw[z];exact eD _)
  have n2:h.objs.size+1≠b:=λz=>absurd lt (by rw[<-z];exact oQ.mpr<|iX _)
  unfold sortedAll sortedHeap;rw[cO _ _ n2];refine aJ _<|aJ _ ?_;rw[cO _ _ n2];refine aJ _ ?_;rw[cO _ _ n1];exact aJ _ g
 ·obtain⟨n1,g1⟩:∃n1,((((h.push<|Ag "list" #[] 0).update h.objs.size (Obj.mapSeq (·++vs.toArray))).push<|Ag "list" vs.toArray 0).update (h.objs.size+1)<|Obj.mapSeq λ_=> #[]).get? (h.objs.size+1)=some (Ag "list" #[] n1):=⟨_,get?_update_seq hoL λ_=> #[]⟩;exact⟨_,get?_update_seq (aJ _<|aJ _ g1) λ_=>out⟩
noncomputable def exO(l:BG)(o:BJ):HO:=.ext λh=>h.get? l=some o
theorem vK{h:BI}{o:BJ}(g:h.get? l=some o):ObjOk P w H h l (exO l o):=⟨g,⟨o,g⟩,λ_ _ q k=>k _ q⟩
def TDo(P:AF)(w:AM)(F:Hp)(l:BG)(o:BJ)(kvs:List (List Key×V)):Prop:=
 kvs.length<=AL/\(l==AW)=false/\∃xs,KT F kvs xs/\∃es ep,o.ExactDict/\o.data=.dict es ep/\es.toList=xs.map (entryOfKey (AQ<|dS P w))/\(xs.map (·.1)).Nodup
theorem TDo.mono{o:BJ}{kvs:List (List Key×V)}(t:TDo P w F l o kvs)(s:Same F F'):TDo P w F' l o kvs:=by obtain⟨z,y,xs,r,q⟩:=t;exact⟨z,y,xs,r.keeps λb ys e=>s _ _ e,q⟩
theorem KT.all{h:BI}(ok:HOk P w H h){l:List (List Key×V)}{m:List (List Key×BG×BE)}(q:KT H l m):∀x∈m,(AQ<|dS P w).is h x.1 x.2.1:=by
 induction q with
 |nil=>intro x hx;exact nomatch hx
 |@cons p q ps qs hq t ih=>
  intro x hx
  rcases aU.mp hx with e|hx
  ·subst e;exact nH ok (by rw[<-hq.1];exact hq.2.1)
  ·exact ih x hx
noncomputable def kD:Key->D
 |.inl i=>.int i
 |.inr x=>.str x
theorem oK{K:aB}{F:Hp}:∀ {k:List Key}{xs:List V},RepL K F (k.map kD) xs->xs=k.map kV
 |[],xs,r=>by simpa only[dL,RepL] using r
 |a::k,xs,r=>by
  rw[bA] at r;obtain⟨y,ys,rfl,q,rl⟩:=r.uncons;rw[oK rl,bA];congr 1;cases a with
  |inl i=>simp only[kD,Rep] at q;exact q
  |inr x=>simp only[kD,Rep] at q;exact q
theorem sW{α β:Type}{xs:List α}{ys:List β}(h:xs.length=ys.length)(x:α)(y:β):(xs++[x]).zip (ys++[y])=xs.zip ys++[(x,y)]:=by rw[aKu h];rfl
theorem xR{ks:List (List Key)}{k:List Key}(hk:k∉ks):∀ {ks':List (List Key)}{xs:List V},(∀j∈ks',j∈ks)->fE (ks'.zip xs) k=none
 |[],_,_=>rfl
 |_::_,[],_=>rfl
 |j::js,x::xs,h=>by rw[dM,fF (p:=(j,x)) (k:=k) (λe=>hk<|(show j=k from e)▸h j aG)];exact xR hk λi hi=>h i<|aF _ hi
theorem wV:∀ {sd:List Slot}{i:Nat}{z:Slot},(cA sd).Nodup->sd[i]? =some z->(gO z).Nodup
 |[],_,_,_,e=>by simp at e
 |y::zs,0,z,h,e=>by
  have:y=z:=by simpa using e
  subst this;exact(bE.mp (show(gO y++cA zs).Nodup from h)).1
 |y::zs,i+1,z,h,e=>wV (sd:=zs) (i:=i) (bE.mp (show(gO y++cA zs).Nodup from h)).2.1 (by simpa using e)
variable {ks:List (List Key)}
theorem StF.setT{as:List BG}{G:V->Hp->Hp->Prop}(S:StF K H₀ F H σ sd)(i:Nat)(q:gQ K F H (.ox as G) (some v))(nd:as.Nodup)(no:∀a∈as,a∉cA sd):StF K H₀ F H (σ.set i (some v)) (sd.set i<|.ox as G):=
 ⟨S.base,S.sub,S.smp,S.slots.set (z:=.ox as G) q i,(iO (z:=.ox as G) i S.nd (λl e=>.inl<|no l e) nd).1⟩
theorem StF.reT{z z':Slot}{o:Option V}(S:StF K H₀ F H σ sd)(hs:sd[i]? =some z)(ho:σ[i]? =some o)(keep:∀b ob,b∉gO z->H b=some ob->H' b=some ob)(sm:Smp H')(q:gQ K F H' z' o)(nd:(gO z').Nodup)(no:∀a∈gO z',a∈gO z\/a∉cA sd):StF K H₀ F H' σ (sd.set i z'):=by
 have S0:=S.le<|gE sd i;have mz:∀a∈gO z,a∈cA sd:=λa ha=>dI.mpr ⟨z,aK hs,ha⟩
 refine⟨S.base,λb u e=> ?_,sm, ?_, ?_⟩
 ·refine keep b u (λhb=> ?_)<|S.sub _ _ e;have:=(S.slots.owns<|mz b hb).1;rw[e] at this;cases this
 ·have q1:SlotsOk K F H' (sd.set i .un) σ:=S0.slots.mono (Same.refl _) λa ha=>⟨(S0.slots.owns ha).1,λob e=>keep a ob (λhb=>gX S.nd hs hb ha) e⟩
  have q2:=q1.set (z:=z') (o:=o) q i;rw[iS,kE ho] at q2;exact q2
 ·have:=iO (z:=z') i S0.nd (fun a ha=>by
   rcases no a ha with h|h
   ·exact .inl<|gX S.nd hs h
   ·exact .inl λhm=>h ((gE sd i).own.subset hm)) nd
  rw[iS] at this;exact this.1
theorem mG{o:BJ}(h:Smp H)(a:BG):Smp (upd H a<|exO a o):=λb u e=>by
 by_cases z:b=a
 ·subst z;rw[bV] at e;cases e;trivial
 ·rw[bI z] at e;exact h _ _ e
variable {k:List Key}
noncomputable def aFl:BJ:={cls:=.type "dict",data:=.dict #[]}
theorem aAU:PE X (.Dict [] [] pos) (λ_ H Q=>∀p,H p=none->(p==AW)=false->Q (.ref p) (upd H p<|exO p aFl)):=λpins s σ H Q I h=>wpAny_Dict_empty ⟨.ref s.heap.objs.size,_,I.laid (a:=s.heap.objs.size) (o:=exO s.heap.objs.size aFl) (t':=s.toks) (λ_ _ q=>aJ _ q) (aP _) (vK<|bK _ rfl),rfl,h _ (I.hok.fresh<|aP _)<|beq_eq_false_iff_ne.mpr (Ne.symm<|bN I.big)⟩
section
variable {prog:AF}{w:AM}{K:Type}[DecidableEq K]{knd:HeapKind prog w K}{A:BH}{E:BE->BF->Prop}{s:BF}
theorem pJ{d a:BG}{xs:List (K×BG×BE)}{k:K}{v:BE}{Q:BE->BF->Prop}(hu:knd.room A)(hkey:knd.is s.heap k a)(hm:s.heap.DictOfH knd d xs)
  (hold:∀u,(atKey xs k).map (·.2)=some u->Q u {s with toks:=s.toks+knd.draws k})
  (hnew:atKey xs k=none->∀h',h'.DictOfH knd d (storedH xs k a v)->Heap.SameBut d s.heap h'->Q v {s with heap:=h',toks:=s.toks+knd.draws k})
  (hsz:xs.length<=AL):
  AK (AH prog w) A (dictSetDefault d (.ref a) v) Q E s:=by
 obtain⟨o,es,ep,ho,hc,hd,he,his,hn⟩:=hm;unfold dictSetDefault
 try with_reducible refine Ah ?_
 refine AA<|knd.pyHash hu hkey ?_;refine AA<|wpAny_dictFind_heap (s:={s with toks:=s.toks+knd.draws k}) hu hkey ho hd he his hn ?_ ?_
 ·intro hno;have hnot:k∉xs.map (·.1):=not_mem_keys_of_get hno
  refine AA (At (AA (wpAny_updateDictKeys (hz:=by have e:=Av he; omega) (s:={s with toks:=s.toks+knd.draws k}) ho hd (AB (hnew (atKey_none_of_get hno) _ ⟨_,_,ep+1,gC _ ho (Obj.isFreed_of_dict (Obj.data_mapDictKeys hd _)),
   hc.mapDictKeys _,Obj.data_mapDictKeys hd _, ?_, ?_, ?_⟩ (Heap.SameBut.update ..))))))
  ·rw[storedH_new<|atKey_none_of_get hno];simp[he,entryOfKey]
  ·rw[storedH_new<|atKey_none_of_get hno];intro x hx
   rcases aM.mp hx with hx|hx
   ·exact knd.keeps (his x hx) ho hd<|Heap.SameBut.update ..
   ·simp only[aE] at hx;subst hx;exact knd.keeps hkey ho hd<|Heap.SameBut.update ..
  ·rw[storedH_new<|atKey_none_of_get hno];rw[aW,bE];refine⟨hn,by simp, ?_⟩;intro x hx y hy;simp only[bA,dL,aE] at hy;subst hy;exact λe=>hnot<|e▸hx
 ·intro j p hj;refine AA<|Ak (s:={s with toks:=s.toks+knd.draws k}) ho hd ?_;rw[entry_at he j,hj];have:=hold p.2 (by rw[atKey_of_get hn hj];rfl);exact AA (At<|AB this)
end
section
variable {prog:AF}{w:AM}{K:Type}[DecidableEq K](knd:HeapKind prog w K)(d a:BG)
theorem qR(hd:(d==AW)=false)(dflt:BE):
  MeetsIn prog w (Builtin.«dict.setdefault» ⟨[.ref d, .ref a,dflt],[]⟩) (fun A R s=>knd.room A.in1∧∃k xs,knd.is s.heap k a∧s.heap.DictOfH knd d xs∧xs.length≤AL∧
   (∀u,(atKey xs k).map (·.2)=some u->R (.ok<|.ret u) {s with toks:=s.toks+knd.draws k})/\
   (atKey xs k=none->∀h',h'.DictOfH knd d (storedH xs k a dflt)->Heap.SameBut d s.heap h'->R (.ok (.ret dflt)) {s with heap:=h',toks:=s.toks+knd.draws k})):=
 .of_wp λA R s ⟨hu,k,xs,hkey,hm,hz,h1,h2⟩=>by unfold Builtin.«dict.setdefault»;refine AA ?_;unfold Builtin.Dict.keyAndDefault;refine AA<|Ax hm.typeIs ?_;show AK _ _ (pure (d,Value.ref a,some dflt)) _ _ s;refine AB ?_;show AK _ _ (if(d==AW)=true then _ else(dictSetDefault d (.ref a) dflt>>=_)) _ _ s;rw[if_neg<|by rw[hd];exact bF];exact AA<|pJ (hsz:=hz) hu hkey hm (λv hv=>AB ⟨v,rfl,h1 v hv⟩) λhn h' hm' hs'=>AB ⟨dflt,rfl,h2 hn h' hm' hs'⟩
end
section
variable {X:Cx}{o e:Expr}{es:List Expr}{to:TE}{t:TA}{name:Str}{apos cpos:Pos}{id:String}{r:V->List V->Hp->VK->Prop}
theorem aKI(pa:PlainAttrs "dict")(slot:PySem.Slot "dict" name id)(hty:typeOf (.builtin id)=pure (.type "method_descriptor"))(hm:MtR X id r)(ho:PE X o to)(ha:PA X (e::es) t)
  (hbase:attributeBase o name X.env (eval o X.env)=eval o X.env:=by rfl)
  (hfew:((Af cpos (AC (e::es) X.env)).all (fun x=> !x.1) && (backToKw cpos (keywordEach [] X.env)).all (fun x=>x.1.isSome)
  &&decide ((e::es).length+([]:List Keyword).length+(if([]:List Keyword).isEmpty then 0 else 1)<30))=true:=by rfl)
  (hline:(apos.endLine==cpos.line)=true:=by rfl) (hs:AC (e::es) X.env=(false,eval e X.env)::AC es X.env:=by rfl) (hplain:(Af cpos<|AC es X.env).any (·.1)=false:=by rfl):
  PE X (.Call (.Attribute o name apos) (e::es) [] cpos) (λσ H Q=>to σ H λx H1=>(∃l ob,x=.ref l/\H1 l=some (exO l ob)/\ob.ExactDict)/\t σ H1 λxs H2=>r x xs H2 Q):=by
 intro pins s σ H Q I h;refine wpAny_Call_method_late hbase hfew hline rfl<|thn (ho pins s σ H _ I h) λv s1 ⟨x,H1,I1,r1,⟨l,ob,e1,e2,e3⟩,q1⟩=> ?_;subst e1;obtain rfl:v=Value.ref l:=r1;have hg:s1.heap.get? l=some ob:=(I1.hok l _ e2).1;refine⟨"dict",id,pa,slot,hty,⟨ob,hg,e3.1⟩,λa q=> ?_, ?_⟩
 ·cases q;exact⟨ob,hg,e3.2.1⟩
 have hA:=ha cpos pins s1 σ H1 _ I1 q1;rw[hs] at hA ⊢;refine Calls.callWith_builtin (by show(false||(Af cpos<|AC es X.env).any (·.1))=false;rw[hplain]<;>rfl)<|Calls.evalArgs_plain ?_;exact thn hA λus s2 ⟨vs,H2,I2,r2,q2⟩=>hm pins s2 σ H2 (.ref l) vs (.ref l) us Q I2 rfl r2 q2
def rSD(X:Cx):V->List V->Hp->VK->Prop:=λx vs H Q=>∃ (F:Hp) (l ad:BG) (k:List Key) (y:V) (o:BJ) (kvs:List (List Key×V)),x=.ref l/\vs=[.ref ad,y]/\Same F H/\H l=some (exO l o)/\F ad=some (.tup<|k.map kV)/\X.A.units+1<AO/\
 TDo X.prog X.w F l o kvs/\kvs.length+1<=AL/\(∀z,fE kvs k=some z->Q z H)/\(fE kvs k=none->∀o',(∀v,o'.data≠ .cell v)->TDo X.prog X.w F l o' (kvs++[(k,y)])->Q y (upd H l<|exO l o'))
theorem aOe:MtR X "dict.setdefault" (rSD X):=by
 intro pins s σ H x vs v us Q I rx rv h;obtain⟨F,l,ad,k,y,o,kvs,rfl,rfl,sF,hl,ha,hu,⟨z,hm,ts,kt,es,ep,t1,t2,t3,t4⟩,hz1,q1,q2⟩:=h;obtain rfl:v=Value.ref l:=rx;cases rv with
 |cons r1 rv=>
  obtain⟨u,rfl,ru⟩:=Vals.one rv;rename_i b;obtain rfl:b=Value.ref ad:=r1;have ho:s.heap.get? l=some o:=(I.hok l _ hl).1;have ktH:KT H kvs ts:=kt.keeps λb ys e=>sF _ _ e
  have dd:s.heap.DictOfH (AQ<|dS X.prog X.w) l ts:=⟨o,es,ep,ho,t1,t2,t3,KT.all I.hok ktH,t4⟩;have hz:ts.length<=AL:=by rw[<-Paired.length kt];exact z
  refine call_meetsIn gY dd.typeIs tQ (tG _ _ _) (qR (AQ<|dS X.prog X.w) l ad hm u) ⟨Am hu,k,ts,nH I.hok<|sF _ _ ha,dd,hz,λw' hw=> ?_,λhn h' dd' hsm=> ?_⟩
  ·have rl:=ktH.val k;rw[hw] at rl;cases hv:fE kvs k with
   |none=>rw[hv] at rl;cases rl
   |some z'=>rw[hv] at rl;exact⟨z',H,I.tok _,rl,q1 z' hv⟩
  ·have hn':fE kvs k=none:=by
    have rl:=ktH.val k;rw[hn] at rl;cases hv:fE kvs k with
    |none=>rfl
    |some z'=>rw[hv] at rl;cases rl
   obtain⟨q,es',ep',hq,u2,u3,u4,_,u5⟩:=dd';have I4:=nJ (t':=s.toks+(AQ<|dS X.prog X.w).draws k) I (ob:=exO l q) (by rw[hl];exact True.intro) hsm ⟨q,hq⟩<|vK hq;have kt':=kt.put k ha ru;rw[oF y hn'] at kt';exact⟨y,_,I4,ru,q2 hn' q (λv z=>by rw[u3] at z;cases z) ⟨by rw[aN];exact hz1,hm,_,kt',es',ep',u2,u3,u4,u5⟩⟩
end
def Gg(P:AF)(w:AM)(K:aB)(l:BG)(ks:List (List Key))(ls:List BG)(dss:List (List D)):V->Hp->Hp->Prop:=λv F H=>v=.ref l/\(∃o,H l=some (exO l o)/\(∀v,o.data≠ .cell v)/\ks.length=ls.length/\TDo P w F l o (ks.zip<|ls.map V.ref))/\InD K F H ls dss
noncomputable def odG(P:AF)(w:AM)(K:aB)(l:BG)(ks:List (List Key))(ls:List BG)(dss:List (List D)):Slot:=.ox (l::ls)<|Gg P w K l ks ls dss
theorem yH:∀ {ks:List (List Key)}{xs:List V}{k:List Key}{z:V},fE (ks.zip xs) k=some z->∃n:Nat,ks[n]? =some k/\xs[n]? =some z
 |[],_,_,_,h=>by cases h
 |_::_,[],_,_,h=>by cases h
 |j::js,y::ys,k,z,h=>by
  rw[dM] at h
  by_cases e:j=k
  ·rw[gH (p:=(j,y)) e] at h;exact⟨0,by simp[e],by simpa using h⟩
  ·rw[fF (p:=(j,y)) (k:=k) e] at h;obtain⟨n,h1,h2⟩:=yH h;exact⟨n+1,by simpa using h1,by simpa using h2⟩
theorem aDE:∀ {ks:List (List Key)}{xs:List V}{k:List Key},ks.length=xs.length->fE (ks.zip xs) k=none->k∉ks
 |[],_,_,_,_=>by simp
 |_::_,[],_,h,_=>by cases h
 |j::js,y::ys,k,hl,h=>by
  rw[dM] at h
  by_cases e:j=k
  ·rw[gH (p:=(j,y)) e] at h;cases h
  ·rw[fF (p:=(j,y)) (k:=k) e] at h;have:=aDE (aHN.inj hl) h;exact λhm=>(aU.mp hm).elim (λq=>e q.symm) this
theorem xW{z:Slot}(h:sd[i]? =some z):sd.set i z=sd:=by obtain⟨hi,e⟩:=aD.mp h;rw[<-e,aCh]
theorem hZ(S:StF K H₀ F H σ sd)(hs:sd[i]? =some (odG P w K l ks ls dss)):σ[i]? =some (some<|.ref l)/\(∀a∈l::ls,F a=none)/\(∃o,H l=some (exO l o)/\(∀v,o.data≠ .cell v)/\ks.length=ls.length/\TDo P w F l o (ks.zip<|ls.map V.ref))/\InD K F H ls dss/\(l::ls).Nodup:=by
 obtain⟨o,h1,v,h2,h3,h4⟩:=S.slots.get hs;obtain⟨e,q1,q2⟩:=h4 F H (Same.refl _) λ_ _ _ q=>q
 subst e h2;exact⟨h1,λa ha=>(h3 a ha).1,q1,q2,vW S.nd hs⟩
theorem vN{o:BJ}(hF:∀a∈l::ls,F a=none)(h1:H l=some (exO l o))(nc:∀v,o.data≠ .cell v)(hl:ks.length=ls.length)(t:TDo P w F l o (ks.zip<|ls.map V.ref))(h2:InD K F H ls dss):gQ K F H (odG P w K l ks ls dss) (some<|.ref l):=by
 refine⟨.ref l,rfl,λa ha=>⟨hF a ha, ?_⟩,λF' H' s k=>⟨rfl,⟨o,k _ aG _ h1,nc,hl,t.mono s⟩,h2.mono2 s λa ha=>k a<|aF _ ha⟩⟩
 rcases aU.mp ha with rfl|ha
 ·exact⟨_,h1,o,rfl,nc⟩
 ·obtain⟨xs,e⟩:=h2.of a ha;exact⟨.lst xs,e,trivial⟩
theorem StF.wrG{t:Nat}{a:BG}{es:List D}{ys:List V}(S:StF K H₀ F H σ sd)(hs:sd[i]? =some (odG P w K l ks ls dss))(ht:ls[t]? =some a)(r:RepL K F es ys):StF K H₀ F (upd H a<|.lst ys) σ (sd.set i (odG P w K l ks ls<|dss.set t es)):=by
 obtain⟨g1,g2,⟨o,g3,nc,hl,td⟩,g4,g5⟩:=hZ S hs;obtain⟨n1,n2⟩:=bH.mp g5;have ma:=aK ht
 refine S.reX (z':=odG P w K l ks ls (dss.set t es)) hs g1 (fun b ob hb q=> ?_) (aKe S.smp a) (vN g2 (by
  rw[bI (show l≠a from λz=>n1<|z▸ma)]
  exact g3) nc hl td (g4.set n2 ht r)) g5 λb hb=>.inl hb
 rw[bI (show b≠a from λz=>hb<|z▸aF _ ma)];exact q
theorem InD.snoc{a:BG}:∀ {as:List BG}{dss:List (List D)},InD K F H as dss->H a=some (.lst [])->InD K F H (as++[a]) (dss++[[]])
 |[],[],_,e=>⟨⟨[],e,.nil⟩,trivial⟩
 |[],_::_,h,_=>h.elim
 |_::_,[],h,_=>h.elim
 |_::_,_::_,h,e=>⟨h.1,InD.snoc h.2 e⟩
theorem StF.newG{a:BG}{o:BJ}(S:StF K H₀ F H σ sd)(hs:sd[i]? =some (odG P w K l ks ls dss))(fa:F a=none)(ha:H a=some (.lst []))(na:a∉cA sd)(nc:∀v,o.data≠ .cell v)(td:TDo P w F l o (ks.zip (ls.map V.ref)++[(k,.ref a)])):
  StF K H₀ F (upd H l<|exO l o) σ (sd.set i (odG P w K l (ks++[k]) (ls++[a])<|dss++[[]])):=by
 obtain⟨g1,g2,⟨o',g3,nc',hl,_⟩,g4,g5⟩:=hZ S hs;obtain⟨n1,n2⟩:=bH.mp g5;have ml:∀b∈l::ls,b∈cA sd:=λb hb=>dI.mpr ⟨_,aK hs,hb⟩
 have al:a≠l:=λz=>na<|z▸ml l aG
 have als:a∉ls:=λz=>na (ml a<|aF _ z)
 have sp:∀b,b∈l::(ls++[a])->b∈l::ls\/b=a:=λb hb=>by
  rcases aU.mp hb with h|h
  ·exact .inl<|h▸aG
  ·rcases aM.mp h with h|h
   ·exact .inl<|aF _ h
   ·exact .inr<|aE.mp h
 refine S.reX (z':=odG P w K l (ks++[k]) (ls++[a])<|dss++[[]]) hs g1 (λb ob hb q=> ?_) (mG S.smp l) (vN (λb hb=> ?_) bV nc (by rw[aN,aN,hl];rfl) ?_ ?_) ?_ λb hb=> ?_
 ·rw[bI (show b≠l from λz=>hb<|z▸aG)];exact q
 ·rcases sp b hb with h|rfl
  ·exact g2 b h
  ·exact fa
 ·rw[aW,bA,dL,sW<|by rw[aA];exact hl];exact td
 ·refine InD.snoc (g4.mono2 (Same.refl _) λb hb ob q=> ?_) ?_
  ·rw[bI (show b≠l from λz=>n1<|z▸hb)];exact q
  ·rw[bI al];exact ha
 ·show(l::(ls++[a])).Nodup;refine bH.mpr ⟨λh=> ?_,bE.mpr ⟨n2,by simp,λb hb c hc e=>als<|aE.mp hc▸e▸hb⟩⟩
  rcases aM.mp h with h|h
  ·exact n1 h
  ·exact al (aE.mp h).symm
 ·rcases sp b hb with h|rfl
  ·exact .inl h
  ·exact .inr na
theorem aEd(i:Nat){x:Str}{p p2:Pos}(hN:X.N.Nodup)(hi:X.N[i]? =some x)(hx:Loc X.env.scope x)(hE:∀l,E.nx (sd.set i<|odG X.prog X.w X.K l [] [] []))(hs:AX (.Dict [] [] p2) (some<|.Name x p) pos.line X.env=pure false:=by rfl)
  (hf:X.fn x=true\/X.env.scope.names.lookup x=some .local:=by first|exact .inl rfl|exact .inr rfl|assumption):PSd1 X sd (.Assign [.Name x p] (.Dict [] [] p2) pos) E:=.mk λσ F H S=>
 (nY hN hi hx aAU hs hf).to λq hq hm=>by
  have fp:F q=none:=S.sub.free hq
  have no:q∉cA sd:=λhl=>by obtain⟨_,ob,h,_⟩:=S.slots.owns hl;rw[hq] at h;cases h
  have S1:StF X.K X.B₀ F (upd H q<|exO q aFl) σ sd:=by
   refine⟨S.base,λb u e=> ?_,mG S.smp q,S.slots.mono (Same.refl _) λl hl=> ?_,S.nd⟩
   ·rw[bI<|cC e fp];exact S.sub _ _ e
   ·obtain⟨n,ys,y,_⟩:=S.slots.owns hl;have hne:l≠q:=cC y hq;exact⟨n,λys e=>by rw[bI hne];exact e⟩
  refine⟨_,F,S1.setT i (vN (P:=X.prog) (w:=X.w) (K:=X.K) (ks:=[]) (ls:=[]) (dss:=[]) (λa ha=>by rw[aE.mp ha];exact fp) bV (λv z=>by cases z) rfl ⟨bP _,hm,[],.nil, #[],0,⟨rfl,rfl,rfl⟩,rfl,rfl,cZ⟩ trivial) (by simp) λa ha=> ?_,Same.refl _,hE q⟩;rw[aE.mp ha];exact no
theorem aET(i:Nat){x:Str}{p ap1 cp1 p5 ap cp:Pos}(hu:X.A.units+1<AO)(hs:sd[i]? =some (odG X.prog X.w X.K l ks ls dss))(hx:PE X (.Name x p) (jO i))(hb:PEd X sd b (.val (.tup<|k.map kD)))(h:∀z,PEd X (sd.set i z) e<|.val d)(hl:dss.length<=10000)(hl2:∀ds∈dss,ds.length<=10000)
  (hE1:∀n ds,ks[n]? =some k->dss[n]? =some ds->E.nx (sd.set i<|odG X.prog X.w X.K l ks ls (dss.set n<|ds++[d])))
  (hE2:k∉ks->∀a,E.nx<|sd.set i (odG X.prog X.w X.K l (ks++[k]) (ls++[a])<|dss++[[d]]))
  (hm:PE X (.Call (.Attribute (.Call (.Attribute (.Name x p) "setdefault" ap1) [b, .List [] p5] [] cp1) "append" ap) [e] [] cp)
   (tBM X.K "list" oY (λσ H Q=>jO i σ H λx H1=>(∃l ob,x=.ref l/\H1 l=some (exO l ob)/\ob.ExactDict)/\(lO (wE X b) (lO (wE X (.List [] p5)) vJ)) σ H1 λxs H2=>rSD X x xs H2 Q) (lO (wE X e) vJ)):=by exact aCm jG lV lW sG (aKI jF gY uA aOe (pv _) (dP eY (dP eY pa_nil))) (dP eY pa_nil))
  (hsw:AX (.Call (.Attribute (.Call (.Attribute (.Name x p) "setdefault" ap1) [b, .List [] p5] [] cp1) "append" ap) [e] [] cp) none pos.line X.env=pure false:=by rfl):
  PSd1 X sd (.Expr (.Call (.Attribute (.Call (.Attribute (.Name x p) "setdefault" ap1) [b, .List [] p5] [] cp1) "append" ap) [e] [] cp) pos) E:=.mk λσ F H S=>
 (pE hm hsw).to (by
  obtain⟨h1,h2,⟨o,h3,nc,hk,td⟩,h4,h5⟩:=hZ S hs;have il:i<sd.length:=(aD.mp hs).1
  have fin:∀ (F2 H2:Hp) (ks2:List (List Key)) (ls2:List BG) (dss2:List (List D)) (n:Nat) (ad:BG) (ds:List D),StF X.K X.B₀ F2 H2 σ (sd.set i<|odG X.prog X.w X.K l ks2 ls2 dss2)->Same F F2->ls2[n]? =some ad->dss2[n]? =some ds->ds.length<=10000->E.nx (sd.set i<|odG X.prog X.w X.K l ks2 ls2 (dss2.set n<|ds++[d]))->
    tyV X.K "list" (.ref ad) H2/\(lO (wE X e) vJ) σ H2 λxs H3=>oY (.ref ad) xs H3 λ_ H4=>(lft X F E).nx σ H4:=λF2 H2 ks2 ls2 dss2 n ad ds S2 s2 hn hd hdl hE=>by
   have hs2:(sd.set i<|odG X.prog X.w X.K l ks2 ls2 dss2)[i]? =some (odG X.prog X.w X.K l ks2 ls2 dss2):=fX il;obtain⟨g1,g2,_,g4,g5⟩:=hZ S2 hs2;obtain⟨ds',xs,e1,e2,e3⟩:=g4.get hn;refine⟨.inl ⟨rfl,xs,.of e2⟩,(h _ σ F2 H2 S2).imp λv H3 ⟨F3,S3,s3,q3⟩=> ?_⟩;obtain⟨f1,f2,_,f4,f5⟩:=hZ S3 hs2;obtain⟨ds3,xs3,u1,u2,u3⟩:=f4.get hn;rw[hd] at u1;cases u1;have W:=S3.wrG (es:=ds++[d]) (ys:=xs3++[v]) hs2 hn (u3.app<|.one q3);rw[iS] at W;exact⟨ad,xs3,v,rfl,rfl,u2,by rw[u3.len] ;exact fI hdl,_,F3,W,s2.trans s3,hE⟩
  refine⟨.ref l,h1,⟨l,o,rfl,h3,td.2.2.choose_spec.2.choose_spec.choose_spec.1⟩,(hb σ F H S).imp λv1 H1 ⟨F1,S1,s1,q1⟩=>((oM (ds:=[]) aO (bP _):PEd X sd (.List [] p5) (.own [])) σ F1 H1 S1).imp λv2 H2 ⟨F2,S2,s2,q2⟩=> ?_⟩;obtain⟨g1,g2,⟨o2,g3,nc2,hk2,td2⟩,g4,g5⟩:=hZ S2 hs;simp only[ResOk,Rep] at q1;obtain⟨ad,ys,rfl,ha,rl⟩:=q1;rw[oK rl] at ha;obtain⟨a,xs,rfl,fa,ha2,rl2,na⟩:=q2;have xn:xs=[]:=cQ (by rw[rl2.len];rfl);subst xn;have zl:(ks.zip<|ls.map V.ref).length=dss.length:=by rw[jH,aA,<-hk2,oR,hk2,g4.len]
  refine⟨F2,l,ad,k,.ref a,o2,ks.zip<|ls.map V.ref,rfl,rfl,S2.sub,g3,s2 _ _ ha,hu,td2,by rw[zl];have:=fI hl;omega,λz hz=> ?_,λhz o' nc' td'=> ?_⟩
  ·obtain⟨n,e1,e2⟩:=yH hz;rw[aS] at e2;obtain⟨an,e3,rfl⟩:=eE.mp e2;obtain⟨ds,xs,d1,d2,d3⟩:=g4.get e3;have S2':StF X.K X.B₀ F2 H2 σ (sd.set i<|odG X.prog X.w X.K l ks ls dss):=by rw[xW hs];exact S2
   exact fin F2 H2 ks ls dss n an ds S2' (s1.trans s2) e3 d1 (hl2 ds<|aK d1)<|hE1 n ds e1 d1
  ·have S3:=S2.newG hs fa ha2 na nc' td';have hE:=hE2 (aDE (by rw[aA];exact hk2) hz) a;have en:(dss++[[]]).set dss.length ([]++[d])=dss++[[d]]:=by simp
   exact fin F2 _ (ks++[k]) (ls++[a]) (dss++[[]]) dss.length a [] S3 (s1.trans s2) (by rw[<-g4.len];simp) (by simp) (bP _) (by rw[en];exact hE))
noncomputable def sL(p:Int×Int)(ws:List Int):Nat:=(tU (2^p.1.toNat) ws).toNat
theorem aCP{p:Int×Int}(hp:p∈bO){ws:List Int}(G:Fil p ws):tU (2^p.1.toNat) ws=(sL p ws:Int)/\sL p ws<(bQ p).length/\(bQ p).getD (sL p ws) []=ws:=by have h:=aHa<|aLu p hp;obtain⟨a,b,c⟩:=aMb h G.len G.wd;refine⟨by unfold sL;omega, ?_,c⟩;show _<(hW _ _).length;rw[h.len];exact b
theorem aCK{p:Int×Int}(hp:p∈bO)(hi:i<(bQ p).length):sL p ((bQ p).getD i [])=i:=by
 have h:=aHa<|aLu p hp;have hi':i<2^(p.1.toNat*p.2.toNat):=by rw[<-h.len];exact hi
 have:=(h.at_ i hi').2.2.1;unfold sL;show(tU (2^p.1.toNat)<|(hW (2^p.1.toNat) p.2.toNat).getD i []).toNat=i;rw[this];exact dX i
def aNz(A:BH)(s:BF)(x y:BE)(b:Bool):Prop:=∀ (prog:AF) (w:AM) (E:BE->BF->Prop) (Q:BE->BF->Prop),Q (.bool b) s->AK (AH prog w) A (richCompare .Lt x y) Q E s
inductive yX(A:BH)(s:BF)(fin:Bool):List (BE×BE)->Bool->Prop
 |nil:yX A s fin [] fin
 |eq {x y:BE}{r:List (BE×BE)}{b:Bool}:SeqAt.EqAt A.in1 s x y true->yX A s fin r b->yX A s fin ((x,y)::r) b
 |lt {x y:BE}{r:List (BE×BE)}{b:Bool}:SeqAt.EqAt A.in1 s x y false->aNz A.in1 s x y b->yX A s fin ((x,y)::r) b
section
open PySem.SeqAt
open PySem.AutoSeq1 (wpAny_loadPart')
open PySem.MeetsSeq PySem.MeetsSeq2 PySem.MeetsSeq3
theorem aAb(l b:BG)(items items2:Array BE)(n n2:Nat)(dd dd2:Option BG)(sl sl2:Array (Option BE))(res:Bool):
  Meets (Builtin.«tuple.__lt__» ⟨[.ref l,.ref b],[]⟩)
   (fun A R s=>s.heap.get? l=some {cls:= .type "tuple",dict:=dd,data:= .seq items n,slots:=sl}∧s.heap.get? b=some {cls:= .type "tuple",dict:=dd2,data:= .seq items2 n2,slots:=sl2}∧
    yX A s (decide (items.size<items2.size)) (items.toList.zip items2.toList) res/\R (.ok (.ret (.bool res))) s):=
 .of_wp λprog w A R s h=>by
  obtain⟨hp,g,d,tk,os⟩:=s;obtain⟨hl,hb,hx,h⟩:=h;have f2:=AutoSeq1.sub_tuple_tuple
  wp_walk using wpAny_loadPart' hl,wpAny_loadPart' hb,BB _ (λrest b s'=>b.1=none/\s'=⟨hp,g,d,tk,os⟩/\yX A ⟨hp,g,d,tk,os⟩ (decide<|items.size<items2.size) rest res) _
  case turn=>
   rintro⟨y,x⟩ rest b s' ⟨hb',rfl,hv⟩;cases hv with
   |eq he hr=>
    refine AA<|he prog w _ _ ?_
    wp_walk
    exact⟨rfl,rfl,hr⟩
   |lt he hlt=>
    refine AA<|he prog w _ _ ?_;have hri:=hlt prog w
    wp_walk using hri
    exact⟨_,rfl,by simpa using h⟩
  case fin=>
   rintro⟨b1,b2⟩ s' ⟨hb',rfl,hv⟩;simp only at hb';subst hb';cases hv
   wp_walk
   exact⟨_,rfl,by simpa[Builtin.Tuple.tupleCompareSizes] using h⟩
  case h=>exact⟨rfl,rfl,hx⟩
theorem aBX{A:BH}{s:BF}{l b:BG}{items items2:Array BE}{res:Bool}(hl:IsTup s.heap l items)(hb:IsTup s.heap b items2)(hx:yX A s (decide<|items.size<items2.size) (items.toList.zip items2.toList) res)
  (hu:A.units<AO):aNz A s (.ref l) (.ref b) res:=λprog w E Q h=>by
 obtain⟨⟨cls,dd,data,sl⟩,ho,hc,n,hd⟩:=id hl;obtain⟨⟨cls2,dd2,data2,sl2⟩,ho2,hc2,n2,hd2⟩:=id hb;simp only at hc hd hc2 hd2;subst hc hd hc2 hd2
 exact richCompare_meets_room (op:= .Lt) ⟨_,ho,rfl⟩ ⟨_,ho2,rfl⟩ PySem.F.slot_tuple_lt PySem.F.entry_tuple_lt (PySem.F.args_tuple_lt_2 _ _) (aAb l b items items2 n n2 dd dd2 sl sl2 res)
  ⟨ho,ho2,hx,show Value.bool res≠Value.notImplemented/\Q (.bool res) s from⟨(λx=>nomatch x),h⟩⟩ hu
end
mutual
noncomputable def dlt:D->D->Bool
 |.int a,.int b=>decide<|a<b
 |.tup a,.tup b=>pN a b
 |_,_=>false
noncomputable def pN:List D->List D->Bool
 |[],[]=>false
 |[],_::_=>true
 |_::_,[]=>false
 |d::ds,e::es=>if deq d e=true then pN ds es else dlt d e
end
mutual
noncomputable def rN:D->D->Bool
 |.int _,.int _=>true
 |.tup a,.tup b=>xL a b
 |_,_=>false
noncomputable def xL:List D->List D->Bool
 |[],_=>true
 |_::_,[]=>true
 |d::ds,e::es=>rN d e&&xL ds es
end
mutual
theorem aHs(hok:HOk P w H s.heap):∀ (d:D) {d2:D}{v1 v2:V}{u1 u2:BE}{A:BH},rN d d2=true->pl d=true->pl d2=true->Rep K H d v1->Rep K H d2 v2->RelV v1 u1->RelV v2 u2->A.units+dep d<AO->aNz A s u1 u2 (dlt d d2)
 |.int a,d2,v1,v2,u1,u2,A,c,p1,p2,r1,r2,ru1,ru2,hu=>by
  cases d2 with
  |int b=>simp only[Rep] at r1 r2;subst r1 r2;obtain⟨t,rfl⟩:=ru1;obtain⟨t2,rfl⟩:=ru2;simp only[dlt];exact λprog w E Q h=>(PyProof.Rows.lt_int h:AK (AH prog w) A (AS .Lt (.int a t)<|.int b t2) Q E s)
  |_=>simp[rN] at c
 |.tup ds,d2,v1,v2,u1,u2,A,c,p1,p2,r1,r2,ru1,ru2,hu=>by
  cases d2 with
  |tup es=>
   obtain⟨a,xs,its,rfl,rfl,rl,rv,ht⟩:=iL hok r1 ru1;obtain⟨b,ys,jts,rfl,rfl,rl2,rv2,ht2⟩:=iL hok r2 ru2;simp only[dlt];have l1:its.length=ds.length:=by rw[<-rv.length,rl.len]
   have l2:jts.length=es.length:=by rw[<-rv2.length,rl2.len]
   simp only[pl] at p1 p2;simp only[dep] at hu;simp only[rN] at c;refine aBX ht ht2 ?_ (by omega);exact aCJ hok ds c p1 p2 rl rl2 rv rv2 (by omega) (by simp[l1,l2])
  |_=>simp[rN] at c
 |.non,d2,_,_,_,_,_,c,_,_,_,_,_,_,_=>by cases d2<;>simp[rN] at c
 |.bl _,d2,_,_,_,_,_,c,_,_,_,_,_,_,_=>by cases d2<;>simp[rN] at c
 |.str _,d2,_,_,_,_,_,c,_,_,_,_,_,_,_=>by cases d2<;>simp[rN] at c
 |.lst _,d2,_,_,_,_,_,c,_,_,_,_,_,_,_=>by cases d2<;>simp[rN] at c
 |.dic,d2,_,_,_,_,_,c,_,_,_,_,_,_,_=>by cases d2<;>simp[rN] at c
 |.dki _ _,d2,_,_,_,_,_,c,_,_,_,_,_,_,_=>by cases d2<;>simp[rN] at c
 |.any _,d2,_,_,_,_,_,c,_,_,_,_,_,_,_=>by cases d2<;>simp[rN] at c
 |.scr _,d2,_,_,_,_,_,c,_,_,_,_,_,_,_=>by cases d2<;>simp[rN] at c
theorem aCJ(hok:HOk P w H s.heap):∀ (ds:List D) {es:List D}{xs ys:List V}{its jts:List BE}{A:BH}{fin:Bool},xL ds es=true->plL ds=true->plL es=true->RepL K H ds xs->RepL K H es ys->Vals xs its->Vals ys jts->A.units+1+iQ ds<AO->fin=decide (ds.length<es.length)->yX A s fin (its.zip jts) (pN ds es)
 |[],es,xs,ys,its,jts,A,fin,c,p1,p2,r1,r2,v1,v2,hu,hf=>by
  simp only[RepL] at r1;subst r1;cases v1;subst hf;rw[List.zip_nil_left];cases es with
  |nil=>exact .nil
  |cons e es=>
   have:pN [] (e::es)=decide (([]:List D).length<(e::es).length):=by simp[pN]
   rw[this];exact .nil
 |d::ds,[],xs,ys,its,jts,A,fin,c,p1,p2,r1,r2,v1,v2,hu,hf=>by
  simp only[RepL] at r2;subst r2;cases v2;subst hf;rw[List.zip_nil_right];have:pN (d::ds) []=decide ((d::ds).length<([]:List D).length):=by simp[pN]
  rw[this];exact .nil
 |d::ds,e::es,xs,ys,its,jts,A,fin,c,p1,p2,r1,r2,v1,v2,hu,hf=>by
  obtain⟨x,xs,rfl,a1,r1⟩:=r1.uncons;obtain⟨y,ys,rfl,a2,r2⟩:=r2.uncons;simp only[plL,bC] at p1 p2;simp only[xL,bC] at c;simp only[iQ] at hu;cases v1 with
  |cons q1 v1=>
   cases v2 with
   |cons q2 v2=>
    rw[dM];have he:=aAA (A:=A.in1) hok d p1.1 p2.1 a1 a2 q1 q2 (by show A.units+1+dep d<AO;omega);simp only[pN]
    by_cases z:deq d e=true
    ·rw[if_pos z];rw[z] at he;exact .eq he (aCJ hok ds c.2 p1.2 p2.2 r1 r2 v1 v2 (by omega)<|by rw[hf];simp)
    ·rw[if_neg z];rw[iN.mpr z] at he;exact .lt he (aHs (A:=A.in1) hok d c.1 p1.1 p2.1 a1 a2 q1 q2<|by show A.units+1+dep d<AO;omega)
end
section
variable {prog:AF}{w:AM}{A:BH}{E:BE->BF->Prop}{s:BF}
open HT
end
theorem aEU{f:Nat->Bool}{A:List (List Int)}:(qA f A).isNone=true↔∀j,j<A.length->f j=false:=by
 constructor
 ·intro h j hj;cases e:f j with
  |false=>rfl
  |true=>exfalso;unfold qA at h;rw[Option.isNone_map] at h;have:=sE.mp (Option.isNone_iff_eq_none.mp h) j<|cE.mpr hj;exact this e
 ·intro h;rw[uV h];rfl
theorem xA(a:List Nat):(cD a).length=a.length:=by unfold cD;rw[aA]
noncomputable def xX(h:BI)(a:BG):BI:=h.update a λo=>{o with data:=.freed}
noncomputable def oI(h:BI)(S:List BG):BI:=S.foldl xX h
theorem aAr(h:BI){a b:BG}(ne:b≠a):(xX h a).get? b=h.get? b:=cO _ _<|Ne.symm ne
theorem aBZ(h:BI)(a:BG):(xX h a).get? a=none:=by
 cases h;simp only[xX,Heap.update,Heap.get?,aCg,if_true]
 split
 ·rfl
 ·rename_i hx;generalize hq:Option.map _ _=q at hx ⊢;cases q with
  |none=>rfl
  |some o=>obtain⟨o',h1,h2⟩:=eE.mp hq;exact(hx _ _ _<|by rw[<-h2]).elim
theorem lC:∀ {S:List BG}{h:BI}{a:BG},a∉S->(oI h S).get? a=h.get? a
 |[],_,_,_=>rfl
 |b::S,h,a,hn=>by show(oI (xX h b) S).get? a=_;rw[lC λz=>hn<|aF _ z,aAr h (λz:a=b=>hn<|z▸aG)]
theorem jZ:∀ {S:List BG}{h:BI}{a:BG},a∈S->(oI h S).get? a=none
 |b::S,h,a,hm=>by
  show(oI (xX h b) S).get? a=none
  by_cases hs:a∈S
  ·exact jZ hs
  ·have e:a=b:=(aU.mp hm).resolve_right hs;subst e;rw[lC hs,aBZ]
theorem rJ{S:List BG}{h:BI}{a:BG}{o:BJ}(q:(oI h S).get? a=some o):a∉S/\h.get? a=some o:=by
 have hn:a∉S:=λz=>by rw[jZ z] at q;cases q
 exact⟨hn,by rw[lC hn] at q;exact q⟩
theorem oW{h base base':BI}:∀ {l:List Env},h.FunFrames base l->(∀b∈l.filterMap (·.frame),base'.get? b=none)->h.FunFrames base' l
 |[],_,_=>trivial
 |env::rest,hl,hb=>by
  obtain⟨hk,⟨L,o,hf,hn,ho,hd⟩,hr⟩:=hl;have e:(env::rest).filterMap (·.frame)=L::rest.filterMap (·.frame):=by rw[fV,hf]
  rw[e] at hb;exact⟨hk,⟨L,o,hf,hb L aG,ho,hd⟩,oW hr λb hm=>hb b<|aF _ hm⟩
theorem vH{h:BI}{a:BG}{o:HO}(x:ObjOk P w H h a o):∃ob,h.get? a=some ob:=by
 cases o with
 |lst xs=>obtain⟨_,_,_,_,e⟩:=x;exact⟨_,e⟩
 |tup xs=>obtain⟨_,_,_,ob,e,_⟩:=x;exact⟨_,e⟩
 |dK kvs=>obtain⟨_,_,_,_,o,_,_,e,_⟩:=x;exact⟨_,e⟩
 |dT kvs=>obtain⟨_,_,_,_,o,_,_,e,_⟩:=x;exact⟨_,e⟩
 |set S n=>obtain⟨o,_,_,_,e,_⟩:=x;exact⟨_,e⟩
 |ins C dx fs=>obtain⟨_,_,_,e,_⟩:=x;exact⟨_,e⟩
 |own y=>obtain⟨_,e⟩:=x;exact⟨_,e⟩
 |xd fs=>obtain⟨_,⟨_,_,_,e,_⟩,_⟩:=x;exact⟨_,e⟩
 |rng lo hi=>obtain⟨_,_,_,e⟩:=x;exact⟨_,e⟩
 |frz ob u=>obtain⟨e,_⟩:=x;exact⟨_,e⟩
 |tbl ps=>exact⟨_,(show h.get? a=some _ from x)⟩
 |met f y=>exact⟨_,(show h.get? a=some _ from x)⟩
 |ext φ=>obtain⟨_,⟨_,e⟩,_⟩:=x;exact⟨_,e⟩
structure Exc(h0 h:BI)(H:Hp)(a T:BG)(cls:BE):Prop where
 free:H a=none
 new:h0.get? a=none
 freeT:H T=none
 newT:h0.get? T=none
 obj:∃oe vs oT ts a0,h.get? a=some oe/\(oe.cls=cls/\vs[0]? =some a0)/\oe.data=.fields vs/\vs[1]? =some (.ref T)/\T≠a/\h.get? T=some oT/\oT.data=.fields ts/\ts[3]? =some .none
noncomputable def CX1(P:AF)(w:AM)(cls:BE):CXT:=λouter H s E e s'=>∃a T H',e=.ref a/\s'.os=s.os/\AllBare s'.gens/\Un (frs outer) [] H H' s.heap s'.heap/\HOk P w H' s'.heap/\Exc s.heap s'.heap H' a T cls/\E (.ref a) (some a) H'
variable {pins:List (BG×BJ)}{h':BI}{a T:BG}{cls a0:BE}{S:List BG}{E:XK}
theorem aDI(I:Inv X pins σ H s)(hex:X.ex=[])(hst:X.stack=X.env::X.outer/\X.env.frame=some X.env.locals)(hS:∀b∈S,H b=none/\X.s₀.heap.get? b=none)(ha:a∈S)(L:Heap.LeftW (oI s.heap<|frs X.stack++S) X.stack a cls a0 s.heap h')(hE:E (.ref a) (some a) H):
  CX1 X.prog X.w cls X.outer X.H₀ X.s₀ E (.ref a) {s with heap:=h'}:=by
 obtain⟨k1,k2,⟨oe,vs,T,oT,ts,he,hc,hd,h1,hnT,hTe,hT,hdT,h3⟩,k4⟩:=L
 have fr:frs X.stack=X.env.locals::frs X.outer:=by unfold frs;rw[hst.1,fV,hst.2]
 have out:∀b o,X.s₀.heap.get? b=some o->b∉frs X.outer->b∉frs X.stack++S:=λb o q hb hm=>by
  rcases aM.mp hm with hm|hm
  ·rw[fr] at hm
   rcases aU.mp hm with e|hm
   ·have:=I.ok.above;have lt:=aR q;rw[e] at lt;exact absurd lt<|oQ.mpr this
   ·exact hb hm
  ·rw[(hS b hm).2] at q;cases q
 have stay:∀b o,b∉frs X.stack++S->s.heap.get? b=some o->h'.get? b=some o:=λb o hb q=>k1 b o (by rw[lC hb];exact q)
 have nex:∀b,b∉X.ex:=λb hb=>by rw[hex] at hb;cases hb
 have slot:∀b o,X.s₀.heap.get? b=some o->X.H₀ b=none->b∈frs X.outer->∃sl,h'.get? b=some {o with slots:=sl}:=λb o q n hb=>by obtain⟨sl,q1⟩:=I.base.slot b o q n hb<|nex b;obtain⟨_,o',q2,nf⟩:=I.ok.funs.mem hb;rw[q] at q2;cases q2;obtain⟨sl2,q3⟩:=k4 b _ q1 nf;exact⟨sl2,q3⟩
 have tr:∀b u,H b=some u->b∉frs X.stack++S:=λb u e hm=>by
  rcases aM.mp hm with hm|hm
  ·rw[I.env0.frf b hm] at e;cases e
  ·rw[(hS b hm).1] at e;cases e
 have Tn:s.heap.get? T=none\/T∈S:=by
  by_cases hm:T∈frs X.stack++S
  ·rcases aM.mp hm with hm|hm
   ·obtain⟨_,o,q,nf⟩:=k2.mem hm;rw[hT] at q;cases q;exact(nf ts hdT).elim
   ·exact .inr hm
  ·rw[lC hm] at hnT;exact .inl hnT
 refine⟨a,T,H,rfl,I.os,I.bare,⟨λb o q n hb _=>stay b o (out b o q hb) (I.base.keep b o q n hb<|nex b),λb o q n hb _=>slot b o q n hb,λb o q n _=>I.base.free b o q n<|nex b,λb o q _=> ?_,I.base.tups,I.base.frzs,I.base.tbls⟩,λb u e=> ?_,⟨(hS a ha).1,(hS a ha).2, ?_, ?_,oe,vs,oT,ts,a0,he,hc,hd,h1,hTe,hT,hdT,h3⟩,hE⟩
 ·by_cases hb:b∈frs X.outer
  ·obtain⟨sl,q2⟩:=slot b o q (I.ok.frf b hb) hb;exact⟨_,q2⟩
  ·obtain⟨o1,q1⟩:=I.base.there b o q<|nex b;exact⟨o1,stay b o1 (out b o q hb) q1⟩
 ·refine(I.hok b u e).stay (λc v hc q=>stay c v ?_ q) (λ_ q=>q) λ_ _ q=>q
  rcases hc with z|z
  ·rw[z];exact tr b u e
  ·exact tr c _ z
 ·rcases Tn with q|q
  ·cases g:H T with
   |none=>rfl
   |some u=>obtain⟨ob,q2⟩:=vH<|I.hok T u g;rw[q] at q2;cases q2
  ·exact(hS T q).1
 ·rcases Tn with q|q
  ·cases g:X.s₀.heap.get? T with
   |none=>rfl
   |some o=>obtain⟨o1,q1⟩:=I.base.there T o g<|nex T;rw[q] at q1;cases q1
  ·exact(hS T q).2
theorem aEO{args:List BE}{Ex:BE->BF->Prop}(I:Inv X pins σ H s)(hex:X.ex=[])(hst:X.stack=X.env::X.outer/\X.env.frame=some X.env.locals)(m:Heap.MadeExcOf s.heap h' a cls args)(hE:E (.ref a) (some a) H):
  AK (AH X.prog X.w) X.A (leaving X.env<|.ref a) (λ_ s''=>CX1 X.prog X.w cls X.outer X.H₀ X.s₀ E (.ref a) s'') Ex {s with heap:=h'}:=by
 obtain⟨t,he,ht,_⟩:=m.there;have I':Inv X pins σ H {s with heap:=h'}:=I.kept (t':=s.toks) m.keeps
 have Ha:H a=none:=by
  cases g:H a with
  |none=>rfl
  |some u=>obtain⟨ob,q⟩:=vH<|I.hok a u g;rw[m.new] at q;cases q
 have sa:X.s₀.heap.get? a=none:=by
  cases g:X.s₀.heap.get? a with
  |none=>rfl
  |some o=>obtain⟨o1,q1⟩:=I.base.there a o g (λhb=>by rw[hex] at hb;cases hb);rw[m.new] at q1;cases q1
 have hS:∀b∈[a],H b=none/\X.s₀.heap.get? b=none:=λb hb=>by rw[aE.mp hb];exact⟨Ha,sa⟩
 have fu:Heap.FunFrames h' (oI h'<|frs X.stack++[a]) X.stack:=oW I'.env0.funs λb hb=>jZ<|aZ _ hb
 have fm:=I'.ok.frames;rw[hst.1] at fm;have fu2:=fu;rw[hst.1] at fu2;refine wpAny_leaving_firstW (base:=oI h'<|frs X.stack++[a]) fm (by rw[hst.1];exact fu2) hst.2 he (λb o q=>(rJ q).2) (jZ (aI _<|bL a)) rfl rfl rfl λh'' L=> ?_
 rw[<-hst.1] at L;exact aDI I' hex hst hS (bL a) L hE
theorem aBM{Ex:BE->BF->Prop}(I:Inv X pins σ H s)(hex:X.ex=[])(hst:X.stack=X.env::X.outer/\X.env.frame=some X.env.locals)(x:Exc X.s₀.heap s.heap H a T cls)(hE:E (.ref a) (some a) H):
  AK (AH X.prog X.w) X.A (leaving X.env<|.ref a) (λ_ s''=>CX1 X.prog X.w cls X.outer X.H₀ X.s₀ E (.ref a) s'') Ex s:=by
 obtain⟨f1,n1,HT,nT,oe,vs,oT,ts,a0,he,hc,hd,h1,hTe,hT,hdT,h3⟩:=x
 have hS:∀b∈[a,T],H b=none/\X.s₀.heap.get? b=none:=λb hb=>by
  simp only[aU,fD,or_false] at hb
  rcases hb with rfl|rfl
  ·exact⟨f1,n1⟩
  ·exact⟨HT,nT⟩
 have fu:Heap.FunFrames s.heap (oI s.heap<|frs X.stack++[a,T]) X.stack:=oW I.env0.funs λb hb=>jZ<|aZ _ hb
 have fm:=I.ok.frames;rw[hst.1] at fm;have fu2:=fu;rw[hst.1] at fu2;have ca:(oI s.heap<|frs X.stack++[a,T]).get? a=none:=jZ (aI _<|by simp);have cT:(oI s.heap<|frs X.stack++[a,T]).get? T=none:=jZ (aI _<|by simp);refine wpAny_leaving_nextW (base:=oI s.heap<|frs X.stack++[a,T]) (cls:=cls) (a0:=a0) fm (by rw[hst.1];exact fu2) hst.2 ⟨oe,vs,T,oT,ts,he,hc,hd,h1,cT,hTe,hT,hdT,h3⟩ (λb o q=>(rJ q).2) ca λh'' L=> ?_
 rw[<-hst.1] at L;exact aDI I hex hst hS (by simp) L hE
end DL
namespace DL
open PySem PySem.Spec PySem.Calls PySem.W PyProof.Rows Builtin Builtin.Getset_descriptor Builtin.ObjectAttr
variable {prog:AF}{w:AM}{A:BH}{E:BE->BF->Prop}{h:BI}{g:Array GenState}{d:Drawn}{t:Nat}{os:OsState}{a C:BG}{K:Frag}
def ExA(a C:BG)(h:BI):Prop:=∃o,h.get? a=some o/\o.cls=.ref C
theorem ExA.type{M:Model}(I:ExA a C h):Looks M h (typeOf<|.ref a) (.ref C):=by obtain⟨o,h1,h2⟩:=I;exact h2▸(Looks.ld h1).andThen .now
theorem aLC{tp:BE}{R:Result->BF->Prop}{s:BF}(X:K.In s.heap)(I:ExA a C s.heap)(hm:mroIn K C (.type "object")=some true)
  (h:R (.ok (.ret<|.ref C)) s):codeAny (AH prog w) A (.call (.builtin "getset_descriptor.__get__") ⟨[.builtin "object.__class__",.ref a,tp],[]⟩) R s:=by
 obtain⟨hh,g,dr,t,os⟩:=s;have L0:=I.type (M:=AH prog w);have L1:=looks_mroIn (M:=AH prog w) X hm;refine codeAny_call_builtin KF.slot_gs.plain KF.entry_gs<|KF.slot_gs.check _ _ _ _ _ _ _ _ KF.type_class (KF.args_gs _ _ _) ?_;unfold Builtin.«getset_descriptor.__get__» descrGet;rw[dga_obj];refine AA<|AB ?_;unfold descrGetter descrCheckInstance descrNameAndClass isInstance;simp only[KF.owner_class]
 repeat lk
 refine⟨Code.quiet_builtin _<|by decide+kernel,Aw KF.entry_class ?_⟩;unfold Builtin.«object.__class__» shownTypeOf
 repeat lk
 exact h
theorem aFy{tk:Tok}{Q:Fin->BF->Prop}(X:K.In h)(I:ExA a C h)(ha:findIn K (.ref C) "__class__"=some (some<|.builtin "object.__class__"))(hm:mroIn K C (.type "object")=some true)
  (hq:Q (.done (.ret<|.ref C)) ⟨h,g,d,t,os⟩):AK (AH prog w) A (Builtin.«object.__getattribute__» ⟨[.ref a,.str "__class__" tk],[]⟩) Q E ⟨h,g,d,t,os⟩:=by
 have hT5:(⟨h,g,d,t,os⟩:BF).TypeIs (.builtin "object.__class__") "getset_descriptor":=F.typeOf_object_class;have f5:=F.typeOf_object_class;have f6:=F.slot_gs_get.lookup;have f7:=F.slot_gs_set.lookup;have L1:=looks_findIn (M:=AH prog w) X ha;obtain⟨o,hx,hc⟩:=id I
 repeat (any_goals (first|assumption|(with_reducible refine wpAny_loadPart_at hx ?_;rw[hc])|with_reducible refine L1.at ?_|wp_step))
 refine aLC X I hm ?_
 repeat (any_goals (first|assumption|wp_step))
theorem aFS{M:Model}{nameV:BE}{Q:Unit->BF->Prop}(X:K.In h)(I:ExA a C h)(hs:subIn K (.ref C) (.type "BaseException")=some true)(hq:Q () ⟨h,g,d,t,os⟩):
  AK M A (checkBuiltinCall "BaseException.__getattribute__" ⟨[.ref a,nameV],[]⟩) Q E ⟨h,g,d,t,os⟩:=by
 have hk:builtinKind "BaseException.__getattribute__"=some .slot:=by decide+kernel
 have hsplit:splitId "BaseException.__getattribute__"=some ("BaseException","__getattribute__"):=by decide+kernel
 have L1:=looks_subIn (M:=M) X hs;obtain⟨o,hx,hc⟩:=id I;have ha:=F.args_bexc_ga (.ref a) nameV;simp only[checkBuiltinCall,hk,hsplit];refine AA ?_;unfold isInstance
 repeat (first|(with_reducible refine wpAny_loadPart_at hx ?_;rw[hc])|with_reducible refine L1.at ?_|wp_step)
 exact hq
theorem aJY{tk:Tok}{R:Result->BF->Prop}(X:K.In h)(I:ExA a C h)(ha:findIn K (.ref C) "__class__"=some (some<|.builtin "object.__class__"))(hm:mroIn K C (.type "object")=some true)(hs:subIn K (.ref C) (.type "BaseException")=some true)
  (hq:R (.ok (.ret<|.ref C)) ⟨h,g,d,t,os⟩):codeAny (AH prog w) A (.call (.builtin "BaseException.__getattribute__") ⟨[.ref a,.str "__class__" tk],[]⟩) R ⟨h,g,d,t,os⟩:=
 codeAny_call_builtin F.attr_ValueError.ga.plain F.entry_bexc_ga (aFS X I hs<|aFy X I ha hm hq)
theorem aNY{tk:Tok}{Q:BE->BF->Prop}(X:K.In h)(I:ExA a C h)(ha:findIn K (.ref C) "__class__"=some (some<|.builtin "object.__class__"))(hm:mroIn K C (.type "object")=some true)(hs:subIn K (.ref C) (.type "BaseException")=some true)
  (hg:findIn K (.ref C) "__getattribute__"=some (some<|.builtin "BaseException.__getattribute__")) (hn:findIn K (.ref C) "__getattr__"=some none)
  (hq:Q (.ref C) ⟨h,g,d,t,os⟩):AK (AH prog w) A (getAttrBy (.ref a) (.str "__class__" tk) false) Q E ⟨h,g,d,t,os⟩:=by
 have f3:=F.attr_ValueError.ga.bind<|.ref a;have hx2:(Value.builtin "BaseException.__getattribute__"==Value.builtin "object.__getattribute__")=false:=by decide+kernel
 have hx1:(onTheHeap (Value.ref C)&&Value.builtin "BaseException.__getattribute__"==Value.builtin "object.__getattribute__")=false:=by rw[hx2];rfl
 have L1:=looks_findIn (M:=AH prog w) X hg;have L2:=looks_findIn (M:=AH prog w) X hn;obtain⟨o,hx,hc⟩:=id I
 repeat (any_goals (first|assumption|(with_reducible refine wpAny_loadPart_at hx ?_;rw[hc])|with_reducible refine L1.at ?_|with_reducible refine L2.at ?_|wp_step))
 refine aJY X I ha hm hs ?_
 repeat (any_goals (first|assumption|wp_step))
theorem aJg{Q:Option BE->BF->Prop}(X:K.In h)(I:ExA a C h)(ha:findIn K (.ref C) "__class__"=some (some<|.builtin "object.__class__"))(hm:mroIn K C (.type "object")=some true)(hs:subIn K (.ref C) (.type "BaseException")=some true)
  (hg:findIn K (.ref C) "__getattribute__"=some (some<|.builtin "BaseException.__getattribute__")) (hn:findIn K (.ref C) "__getattr__"=some none)
  (hq:Q (some<|.ref C) ⟨h,g,d,t+1,os⟩):AK (AH prog w) A (getAttr? (.ref a) "__class__") Q E ⟨h,g,d,t,os⟩:=by
 unfold getAttr? getAttrBy?
 repeat (any_goals (first|assumption|with_reducible apply aNY X I ha hm hs hg hn|wp_step))
structure aHR(K:Frag)(C:BG):Prop where
 ha:findIn K (.ref C) "__class__"=some (some<|.builtin "object.__class__")
 hm:mroIn K C (.type "object")=some true
 hs:subIn K (.ref C) (.type "BaseException")=some true
 hg:findIn K (.ref C) "__getattribute__"=some (some<|.builtin "BaseException.__getattribute__")
 hn:findIn K (.ref C) "__getattr__"=some none
 hc:(clsIn K C).isSome=true
theorem aBl(x:aHR K C):KitX K (.ref a) (.ref C) (ExA a C) where
 ty:=λ_ _ _ I=>I.type
 it:=λ_ _ X _=>by
  obtain⟨cdD,hcD⟩:=lY.mp x.hc;unfold clsIn at hcD
  split at hcD
  ·rename_i c' d' cd' sl' ho;intro A' Q' E' s' k q;unfold isType loadHead;exact AA (wpAny_loadPart (k _ _<|X _ _ ho)<|AB q)
  ·cases hcD
 ne:=λh tp dd its n sl X htp=>by
  obtain⟨cdD,hcD⟩:=lY.mp x.hc;refine iN.mpr λq=> ?_
  have e:C=tp:=Value.ref.inj<|beq_iff_eq.mp q;subst e;unfold clsIn at hcD
  split at hcD
  ·rename_i c' d' cd' sl' ho;have z:=(X _ _ ho).symm.trans htp;cases z
  ·cases hcD
 ca:=λ{prog w A E Q s} X I k=>by obtain⟨h,g,d,t,os⟩:=s;exact aJg X I x.ha x.hm x.hs x.hg x.hn k
end DL
namespace DL
open PySem PySem.Spec PyProof.Rows L2
noncomputable def aNy:List BE:=[.type "ValueError",.type "Exception",.type "BaseException",.type "object"]
theorem aES{K:aB}{h:BI}{C:BG}{bmB:List BE}{newId:String}(X:K.In h)(q:lS K C bmB newId=true):
  ∃bm N nm q bs hdct sn sub ab col dd k0 k1 k2 k3 k5 mN,h.get? C=some (excClassObj nm q C N bs bm hdct sn sub ab col dd k0 k1 k2 k3 k5 newId)/\h.Ns N mN/\mN "__init__"=none/\OwnTail h bmB bm:=by
 unfold lS at q
 split at q
 ·rename_i dd cd sl ho
  split at q
  ·rename_i C' bm k0 k1 k2 k3 n k5 hm hs;simp only[bC,beq_iff_eq,mH] at q;obtain⟨⟨⟨⟨⟨rfl,rfl⟩,hdel⟩,ht⟩,hok⟩,hni⟩:=q;obtain⟨nm,bs,mro,ns,qn,hd,sn,sub,ab,col,del⟩:=cd;dsimp only at hm hdel hok hni;subst hm hdel
   have hsl:sl= #[k0,k1,k2,k3,some<|.builtin n,k5]:=by obtain⟨l⟩:=sl;simp only at hs;rw[hs]
   subst hsl;exact⟨bm,ns,nm,qn,bs,hd,sn,sub,ab,col,dd,k0,k1,k2,k3,k5,_,X _ _ ho,.of_isNs<|PySem.W.isNs_of_in X hok,PySem.W.nsMap_none_of_in X hok hni,PySem.W.tail_of_in X ht⟩
  ·cases q
 ·cases q
def Takes(X:Cx)(cls:BE)(sd:List Slot):Prop:=∀ (pins:List (BG×BJ)) (σ:St) (F H:Hp) (s:BF) (a T:BG),Inv X pins σ H s->StF X.K X.B₀ F H σ sd->Exc X.s₀.heap s.heap H a T cls->(∀p∈X.pn++pins,p.1≠a/\p.1≠T)->X.xe (.ref a) s
def uX(X:Cx)(cls:BE)(sd:List Slot):Prop:=∀ (pins:List (BG×BJ)) (σ:St) (F H:Hp) (s:BF) (h':BI) (a:BG) (args:List BE),Inv X pins σ H s->StF X.K X.B₀ F H σ sd->Heap.MadeExcOf s.heap h' a cls args->X.xe (.ref a) {s with heap:=h'}
variable {P:AF}{w:AM}{K:aB}{mg:Str->Option BE}{base:BI}{N:List Str}{qual:Str}{scope:Scope}{f:BG}{cdv:BE}{A:BH}{outer:List Env}{s:BF}{H:Hp}{E:XK}{cls:BE}{sd:List Slot}
theorem xS(hE:∀a H',Same H H'->Smp H'->E (.ref a) (some a) H'):Takes (jP (CX1 P w cls) P w K mg base N qual scope f cdv A outer s H E) cls sd:=λpins σ F H' s' a T I S x _=>aBM (X:=jP (CX1 P w cls) P w K mg base N qual scope f cdv A outer s H E) (E:=E) I rfl ⟨rfl,rfl⟩ x<|hE a H' (λb o e=>S.sub _ _<|S.base _ _ e) S.smp
theorem aBT(hE:∀a H',Same H H'->Smp H'->E (.ref a) (some a) H'):uX (jP (CX1 P w cls) P w K mg base N qual scope f cdv A outer s H E) cls sd:=λpins σ F H' s' h' a args I S m=>aEO (X:=jP (CX1 P w cls) P w K mg base N qual scope f cdv A outer s H E) (E:=E) I rfl ⟨rfl,rfl⟩ m<|hE a H' (λb o e=>S.sub _ _<|S.base _ _ e) S.smp
variable {X:Cx}{e a b c:Expr}{es:List Expr}{pos:Pos}{d:D}{ds:List D}{E:iJ}
theorem aEI{x:Str}{np cpos:Pos}{C:BG}(hg:Gl X x)(hm:X.mg x=some (.ref C))(hx:lS X.K C aNy "ValueError.__new__"=true)(ht:uX X (.ref C) sd)(he:PAd X sd (e::es) (ds.map R.val))(hl:ds.length<=10000)
  (hc:X.calm=true:=by rfl) (hdb:(x==("__debug__":Str))=false:=by decide) (hst:AC (e::es) X.env=(false,eval e X.env)::AC es X.env:=by rfl) (hpl:(Af cpos<|AC es X.env).any (·.1)=false:=by rfl):
  PSd1 X sd (.Raise (some<|.Call (.Name x np) (e::es) [] cpos) none pos) E:=.mk λσ F H S pins s I=>by
 obtain⟨bm,Nn,nm,q,bs,hdct,sn,sub,ab,col,dd,k0,k1,k2,k3,k5,mN,hC,hN,hni,T⟩:=aES (h:=X.base) I.ok.mod.kin hx
 refine wpAny_Raise_call_subT (C:=C) (nm:=nm) (q:=q) (N:=Nn) (bs:=bs) (bm:=bm) (hdct:=hdct) (sn:=sn) (sub:=sub) (ab:=ab) (col:=col) (dd:=dd) (k0:=k0) (k1:=k1) (k2:=k2) (k3:=k3) (k5:=k5) (bmB:=aNy)
  xF (mN:=mN) (T.hasType xF.hasBase) (I.ok.hd hc) (by rw[hst];show(false||(Af cpos<|AC es X.env).any (·.1))=false;rw[hpl];rfl) hni (rE I hg hm ⟨rfl, ?_⟩ hdb)
 have hA:=he σ F H S cpos pins s I;rw[hst] at hA ⊢;refine Calls.evalArgs_plain<|AY hA (λus s2 ⟨vs,H2,I2,r2,F2,S2,s2',q2⟩=> ?_) λ_ _ y=>y
 have lv:us.length<=AL:=by rw[<-r2.length,q2.vals.len];exact dN<|fI hl
 exact⟨rfl,lv,I2.bk _ _ hC,hN.keeps I2.bk,T.keeps I2.bk,λh' e m=>ht pins σ F2 H2 s2 h' e us I2 S2 m⟩
structure PEx(X:Cx)(sd:List Slot)(e:Expr):Prop where
 run:∀ (σ:St) (F H:Hp),StF X.K X.B₀ F H σ sd->wE X e σ H (λ_ _=>False)
theorem aEz(h:PEx X sd e)(hs:AX e none pos.line X.env=pure false:=by rfl):PSd1 X sd (.Expr e pos) E:=.mk λσ F H S=>(pE eY hs).to<|(h.run σ F H S).imp λ_ _ z=>z.elim
theorem aAO(i:Nat){x:Str}{p:Pos}(hN:X.N.Nodup)(hi:X.N[i]? =some x)(hx:Loc X.env.scope x)(h:PEx X sd e)(hs:AX e (some<|.Name x p) pos.line X.env=pure false:=by rfl)
  (hf:X.fn x=true\/X.env.scope.names.lookup x=some .local:=by first|exact .inl rfl|exact .inr rfl|assumption):PSd1 X sd (.Assign [.Name x p] e pos) E:=.mk λσ F H S=>
 (nY hN hi hx eY hs hf).to ((h.run σ F H S).imp λ_ _ z=>z.elim)
noncomputable def spX(K:aB)(n:Nat)(C:List D->Prop):Sp:=λvs H _ E=>vs.length=n/\Smp H/\∃ds,RepL K H ds vs/\C ds/\∀a H',Same H H'->Smp H'->E (.ref a) (some a) H'
structure jK(P:AF)(w:AM)(K:aB)(mg:Str->Option BE)(base:BI)(x:Str)(k n:Nat)(C:List D->Prop)(cls:BE)(dvs:List V)(dws:List BE):Prop where
 ex:∃ (f:BG) (fd:Aa) (ps:List Str),mg x=some (.ref f)/\fG K (.ref f)=true/\Binds K fd ps dws/\Vals dvs dws/\FnOk P w K mg base (CX1 P w cls) k f fd ps (spX K n C)
theorem aDh{CX:CXT}{k:Nat}{fd:Aa}{ps:List Str}{sp:Sp}{dvs:List V}{dws:List BE}{Ex:XK}{pins:List (BG×BJ)}{σ:St}{Q:VK}{us:List BE}{vs:List V}(F:FnOk X.prog X.w X.K X.mg X.base CX k f fd ps sp)(hr:Room k X.A)(hb:Binds X.K fd ps dws)(hd:Vals dvs dws)
  (I:Inv X pins σ H s) (r:Vals vs us) (h:sp (vs++dvs) H Q Ex) (hx:∀e s',CX X.stack H s Ex e s'->X.xe e s'):AK (AH X.prog X.w) X.A (call (.ref f) us) (EP X pins σ Q) X.xe s:=by
 have r2:Vals (vs++dvs) (us++dws):=r.append hd;have hl:(us++dws).length=ps.length:=by rw[<-r2.length];exact F.len _ _ _ _ h
 refine wpAny_call<|BA (F.run X.A X.stack s H ⟨us,[]⟩ (us++dws) (vs++dvs) Q Ex hr I.env0 (hb s us I.kIn hl) r2 h) λr s' hq=> ?_;cases r with
 |error e=>exact hx e s' hq
 |ok fl=>
  cases fl with
  |ret u=>exact I.after hq
  |next=>exact False.elim hq
  |brk=>exact False.elim hq
  |cont=>exact False.elim hq
theorem aIH{pins:List (BG×BJ)}{σ:St}{F:Hp}{s':BF}{e:BE}(hex:X.ex=[])(I:Inv X pins σ H s)(S:StF X.K X.B₀ F H σ sd)(h:CX1 X.prog X.w cls X.stack H s (λ_ _ H'=>Same H H'/\Smp H') e s'):
  ∃a T H',e=.ref a/\Inv X pins σ H' s'/\StF X.K X.B₀ F H' σ sd/\Exc X.s₀.heap s'.heap H' a T cls/\∀p∈X.pn++pins,p.1≠a/\p.1≠T:=by
 obtain⟨a,T,H',rfl,os,bare,un,hok,x,sH,smH⟩:=h;have I2:Inv X pins σ H' s':=I.call' os un hok bare (λb z=>absurd z<|by simp)
 have fr:∀b,s.heap.get? b=none->X.s₀.heap.get? b=none:=λb q=>by
  cases g:X.s₀.heap.get? b with
  |none=>rfl
  |some o=>obtain⟨o1,q1⟩:=I.base.there b o g (λhb=>by rw[hex] at hb;cases hb);rw[q] at q1;cases q1
 have nw:∀b,s.heap.get? b=none->∀p∈X.pn++pins,p.1≠b:=λb q p hp z=>by have:=(I.pin p hp).1;rw[z,q] at this;cases this
 exact⟨a,T,H',rfl,I2,⟨S.base,S.sub.trans sH,smH,S.slots.mono (Same.refl _) λl hl=>⟨(S.slots.owns hl).1,λob e=>sH _ _ e⟩,S.nd⟩,⟨x.free,fr a x.new,x.freeT,fr T x.newT,x.obj⟩,λp hp=>⟨nw a x.new p hp,nw T x.newT p hp⟩⟩
theorem aCV{x:Str}{p:Pos}{k n:Nat}{C:List D->Prop}{dvs:List V}{dws:List BE}{dds:List D}(G:jK X.prog X.w X.K X.mg X.base x k n C cls dvs dws)(hex:X.ex=[])(hr:Room k X.A)(hg:Gl X x)(ha:PAd X sd (e::es) (ds.map R.val))(hdv:∀H,RepL X.K H dds dvs)(hc:C (ds++dds))(hn:ds.length+dds.length=n)(ht:Takes X cls sd)
  (hdb:(x==("__debug__":Str))=false:=by decide) (he:AC (e::es) X.env=(false,eval e X.env)::AC es X.env:=by rfl) (hpl:(Af pos<|AC es X.env).any (·.1)=false:=by rfl):
  PEx X sd (.Call (.Name x p) (e::es) [] pos):=⟨fun σ F H S pins s I=>by
 obtain⟨f,fd,ps,hm,hk,bd,hd,G⟩:=G.ex;refine Ad<|rE I hg hm ?_ hdb;refine qD (h₀:=X.base) I.ok.mod.kin hk (thn (ha σ F H S pos pins s I) λus s1 ⟨vs,H1,I1,r,F1,S1,s1',q⟩=>⟨I1.kIn, ?_⟩) he hpl;have rl:RepL X.K H1 (ds++dds) (vs++dvs):=(q.vals.mono S1.sub).app<|hdv H1;refine aDh (Q:=λ_ _=>False) (Ex:=λ_ _ H'=>Same H1 H'/\Smp H') G hr bd hd I1 r ⟨by rw[rl.len,aN];exact hn,S1.smp,ds++dds,rl,hc,λa H' q1 q2=>⟨q1,q2⟩⟩ λe s' hcx=> ?_
 obtain⟨a,T,H',rfl,I2,S2,x2,pn⟩:=aIH hex I1 S1 hcx
 exact ht pins σ F1 H' s' a T I2 S2 x2 pn⟩
variable {x:Str}{st:BK}{fd:Aa}{ps:List Str}{k:Nat}{C:List D->Prop}
theorem fn_x{oc:BE}{od:Option BG}{osl:Array (Option BE)}{dV kV doc pm ct:BE}{an:Option BG}(lk:K.lookup f=some ⟨oc,od,.func<|dU x qual (iA st) (eO st) (bD st) dV kV doc pm an cdv ct,osl⟩)(hcd:jN K cdv qual=true)(S:kA N ps (bD st))
  (body:∀ (A:BH) (outer:List Env) (s:BF) (H:Hp) (E:XK),Room k (A.deeper (Ar qual (bD st) s.heap.objs.size f cdv))→(∀a H',Same H H'→Smp H'→E (.ref a) (some a) H')→∀ds,ds.length=ps.length→C ds→
   PSd (jP (CX1 P w cls) P w K mg base N qual (bD st) f cdv A outer s H E) (init N.length ds) (eO st) {nx:=λ_=>False,rt:=λ_=>False}):
  FnOk P w K mg base (CX1 P w cls) (k+1) f (dU x qual (iA st) (eO st) (bD st) dV kV doc pm an cdv ct) ps (spX K ps.length C):=by
 refine aKT lk hcd S (λvs H Q E h=>h.1) λA outer s H vs Q E hr h=> ?_
 obtain⟨hl,sm,ds,rl,c,q⟩:=h;have hds:ds.length=ps.length:=by rw[<-rl.len];exact hl
 refine⟨_,rV, ?_⟩;have hlen:N.length-vs.length=N.length-ds.length:=by rw[rl.len]
 have S0:StF K H H H (L2.start N vs) (init N.length ds):=by
  refine⟨Same.refl _,Same.refl _,sm, ?_, ?_⟩
  ·unfold L2.start init;rw[hlen];exact nD (m:=0) rl
  ·unfold init;rw[mV];exact cZ
 exact(body A outer s H E hr q ds hds c (L2.start N vs) H H S0).imp (λ_ _ ⟨_,_,_,_,z⟩=>z.elim) (λ_ _ ⟨_,_,z⟩=>z.elim) (λ_ _ ⟨_,_,_,_,z⟩=>z.elim) λ_ _ ⟨_,_,_,_,z⟩=>z.elim
theorem aJn(F:Fun K x qual st f fd)(S:kA N ps (bD st))(hm:mg x=some (.ref f))(hb:∀ (kV doc pm:BE) (an:Option BG) (cdv ct:BE) (us:List BE),us.length=ps.length->bindArgs (dU x qual (iA st) (eO st) (bD st) .none kV doc pm an cdv ct) ⟨us,[]⟩=pure (ps.zip us))
  (body:∀ (cdv:BE) (A:BH) (outer:List Env) (s:BF) (H:Hp) (E:XK),Room k (A.deeper (Ar qual (bD st) s.heap.objs.size f cdv))→(∀a H',Same H H'→Smp H'→E (.ref a) (some a) H')→∀ds,ds.length=ps.length→C ds→
   PSd (jP (CX1 P w cls) P w K mg base N qual (bD st) f cdv A outer s H E) (init N.length ds) (eO st) {nx:=λ_=>False,rt:=λ_=>False}):jK P w K mg base x (k+1) ps.length C cls [] []:=by
 have hbd:=F.binds hb;obtain⟨oc,od,kV,doc,pm,an,cdv,ct,osl,rfl,lk,hcd⟩:=F.ex;exact⟨f,_,ps,hm,F.kp,hbd,.nil,fn_x lk hcd S<|body cdv⟩
variable {pins:List (BG×BJ)}{σ:St}{F:Hp}{h':BI}{S:List BG}
theorem wY{h:BI}{c:BG}{v:Option BE}(k:h.UpToSlots h')(z:h.IsCell c v):h'.IsCell c v:=by
 obtain⟨o,ho,hd⟩:=z;obtain⟨sl,q⟩:=k c o ho λvs e=>by rw[hd] at e;cases e
 exact⟨_,q,hd⟩
theorem aDi(I:Inv X pins σ H s)(hS:∀b∈S,H b=none/\X.s₀.heap.get? b=none/\∀p∈X.pn++pins,p.1≠b)(k1:Heap.StaysIn (oI s.heap<|frs X.stack++S) h')(k4:s.heap.UpToSlots h'):Inv X pins σ H {s with heap:=h'}:=by
 have stay:∀b o,b∉frs X.stack++S->s.heap.get? b=some o->h'.get? b=some o:=λb o hb q=>k1 b o (by rw[lC hb];exact q)
 have out:∀b o,X.s₀.heap.get? b=some o->b∉X.fs->b∉frs X.stack++S:=λb o q hb hm=>by
  rcases aM.mp hm with hm|hm
  ·rcases aU.mp (I.stkSub b hm) with e|hm
   ·have lt:=aR q;rw[e] at lt;exact absurd lt<|oQ.mpr I.ok.above
   ·exact hb hm
  ·rw[(hS b hm).2.1] at q;cases q
 have slot:∀b o,X.s₀.heap.get? b=some o->X.H₀ b=none->b∈X.fs->b∉X.ex->∃sl,h'.get? b=some {o with slots:=sl}:=λb o q n hb hx=>by obtain⟨sl,q1⟩:=I.base.slot b o q n hb hx;obtain⟨_,o',q2,nf⟩:=I.ok.funs.mem hb;rw[q] at q2;cases q2;obtain⟨sl2,q3⟩:=k4 b _ q1 nf;exact⟨sl2,q3⟩
 have tr:∀b u,H b=some u->b∉frs X.stack++S:=λb u e hm=>by
  rcases aM.mp hm with hm|hm
  ·rw[I.env0.frf b hm] at e;cases e
  ·rw[(hS b hm).1] at e;cases e
 obtain⟨m,hn,hl⟩:=id I.loc;refine⟨I.ok,I.os,I.bare,⟨λb o q n hb hx=>stay b o (out b o q hb)<|I.base.keep b o q n hb hx,slot,I.base.free,λb o q hx=> ?_,I.base.tups,I.base.frzs,I.base.tbls⟩,⟨m,k4.ns hn,λi x v e1 e2 e3=> ?_⟩,λx c e=> ?_,I.free,I.freeC,λp hp=> ?_,λb u e=> ?_,I.len⟩
 ·by_cases hb:b∈X.fs
  ·obtain⟨sl,q2⟩:=slot b o q (I.ok.frf b hb) hb hx;exact⟨_,q2⟩
  ·obtain⟨o1,q1⟩:=I.base.there b o q hx;exact⟨o1,stay b o1 (out b o q hb) q1⟩
 ·obtain⟨u,r,q⟩:=hl i x v e1 e2 e3;refine⟨u,r, ?_⟩
  rcases q with q|⟨k,c,e,z⟩
  ·exact .inl q
  ·exact .inr ⟨k,c,e,wY k4 z⟩
 ·obtain⟨v,z⟩:=I.cell x c e;exact⟨v,wY k4 z⟩
 ·obtain⟨e,n,ne,nf,d⟩:=I.pin p hp;refine⟨stay p.1 p.2 (λhm=> ?_) e,n,ne,nf,d⟩
  rcases aM.mp hm with hm|hm
  ·rcases aU.mp (I.stkSub _ hm) with z|z
   ·exact ne z
   ·exact nf z
  ·exact(hS _ hm).2.2 p hp rfl
 ·refine(I.hok b u e).stay (λc v hc q=>stay c v ?_ q) (λ_ q=>q) λ_ _ q=>q
  rcases hc with z|z
  ·rw[z];exact tr b u e
  ·exact tr c _ z
theorem aLI{ξ:BE->BF->Prop}{pn:List (BG×BJ)}(I:Inv X pins σ H s)(S:StF X.K X.H₀ F H σ sd)(hpn:pn=X.pn++pins):Inv {X with H₀:=F,B₀:=F,hB:=λ_ _ e _=>e,xe:=ξ,pn:=pn} [] σ H s:=by
 have n0:∀b,F b=none->X.H₀ b=none:=λb n=>by
  cases q:X.H₀ b with
  |none=>rfl
  |some u=>rw[S.base _ _ q] at n;cases n
 have fn:∀b,H b=none->F b=none:=λb n=>S.sub.free n
 subst hpn
 refine ⟨⟨I.ok.mod,I.ok.kind,I.ok.glob,I.ok.blt,I.ok.above,I.ok.inj,I.ok.has,I.ok.cab,I.ok.hd,I.ok.frames,I.ok.stk,I.ok.exf,fun b o e=>⟨(I.ok.bs b o e).1,fn b (I.bs b o e).2⟩,I.ok.bsz,I.ok.noex,I.ok.exfs,I.ok.funs,fun b hb=> ?_⟩,I.os,I.bare,
  ⟨λb o q n hb hx=>I.base.keep b o q (n0 b n) hb hx,λb o q n hb hx=>I.base.slot b o q (n0 b n) hb hx,λb o q n hx=>I.base.free b o q (n0 b n) hx,I.base.there,λb xs e=>S.sub _ _ e,λb o u e=>S.sub _ _ e,λb ps e=>⟨#[],by rw[S.sub _ _ e];simp⟩⟩,I.loc,I.cell,I.free,I.freeC,λp hp=> ?_,I.hok,I.len⟩
 ·obtain⟨_,o,q,_⟩:=I.ok.funs.mem hb;exact fn b<|I.base.free b o q (I.ok.frf b hb) λhx=>I.ok.exfs b hx hb
 ·rw[cM] at hp;exact I.pin p hp
theorem aMM{ξ:BE->BF->Prop}{pn:List (BG×BJ)}{pins':List (BG×BJ)}{σ':St}{H':Hp}{s':BF}(I0:Inv X pins σ H s)(S:StF X.K X.H₀ F H σ sd)(hpn:pn=X.pn++pins)(I:Inv {X with H₀:=F,B₀:=F,hB:=λ_ _ e _=>e,xe:=ξ,pn:=pn} pins' σ' H' s'):Inv X pins σ' H' s':=by
 subst hpn;have nf:∀b o,X.s₀.heap.get? b=some o->X.H₀ b=none->b∉X.ex->F b=none:=λb o q n hx=>S.sub.free<|I0.base.free b o q n hx
 refine⟨I0.ok,I.os,I.bare,⟨λb o q n hb hx=>I.base.keep b o q (nf b o q n hx) hb hx,λb o q n hb hx=>I.base.slot b o q (nf b o q n hx) hb hx,λb o q n hx=>I.base.free b o q (nf b o q n hx) hx,I.base.there,λb xs e=>I.base.tups b xs<|S.base _ _ e,λb o u e=>I.base.frzs b o u<|S.base _ _ e,λb ps e=>I.base.tbls b ps<|S.base _ _ e⟩,I.loc,I.cell,I.free,I.freeC,λp hp=>I.pin p<|aZ _ hp,I.hok,I.len⟩
theorem aGs{m:Str->Option BE}{j:Nat}{n:Str}{v:Option BE}{t':Nat}(I:Inv X pins σ H s)(hN:X.N.Nodup)(hj:X.N[j]? =some n)(hk:X.env.scope.names.lookup n=some .local)(hn:s.heap.Ns X.env.locals m)
  (hl:∀ (i:Nat) (x:Str) (v:V),X.N[i]? =some x->σ[i]? =some (some v)->Vis X.env.scope x->∃u,RelV v u/\aOH X.env s.heap m x u) (hn':h'.Ns X.env.locals (λx=>if x=n then v else m x)) (hs:Heap.SameBut X.env.locals s.heap h'):Inv X pins (σ.set j none) H {s with heap:=h',toks:=t'}:=by
 have cne:=I.cne;have hiσ:j<σ.length:=by rw[I.len];exact(aD.mp hj).1
 refine⟨I.ok,I.os,I.bare,⟨λb o e n hb hx=> ?_,λb o e n hb hx=> ?_,I.base.free,λb o e hx=> ?_,I.base.tups,I.base.frzs,I.base.tbls⟩,⟨_,hn',λi y v' e1 e2 e3=> ?_⟩,λy c e=> ?_,I.free,I.freeC,λp hp=> ?_,λb ob e=> ?_,by rw[aKt];exact I.len⟩
 ·exact(hs.2 b (bN<|aV (aR e) I.ok.above)).trans<|I.base.keep b o e n hb hx
 ·obtain⟨sl,e1⟩:=I.base.slot b o e n hb hx;exact⟨sl,(hs.2 b (bN<|aV (aR e) I.ok.above)).trans e1⟩
 ·obtain⟨o',e1⟩:=I.base.there b o e hx;exact⟨o',(hs.2 b (bN<|aV (aR e) I.ok.above)).trans e1⟩
 ·by_cases hi:i=j
  ·subst hi;rw[fX hiσ] at e2;cases e2
  ·rw[iT<|Ne.symm hi] at e2;obtain⟨u',r',q⟩:=hl i y v' e1 e2 e3;refine⟨u',r', ?_⟩
   rcases q with⟨k,e⟩|⟨k,c,e,z⟩
   ·refine .inl ⟨k, ?_⟩;have:y≠n:=λe=>hi (uS hN e1<|e▸hj)
    simp[this,e]
   ·exact .inr ⟨k,c,e,z.sameBut hs<|cne y c e⟩
 ·obtain⟨w',z⟩:=I.cell y c e;exact⟨w',z.sameBut hs<|cne y c e⟩
 ·obtain⟨e,n,ne,nf,d⟩:=I.pin p hp;exact⟨(hs.2 p.1 ne).trans e,n,ne,nf,d⟩
 ·refine(I.hok b ob e).stay (λc w' hc q=>(hs.2 c ?_).trans q) (λ_ q=>q) λ_ _ q=>q
  rintro rfl
  rcases hc with z|hc
  ·have:=I.free;rw[z,e] at this;cases this
  ·rw[I.free] at hc;cases hc
variable {a T:BG}{M:Model}{Ex:BE->BF->Prop}
structure aKs(X:Cx)(pins:List (BG×BJ))(σ:St)(H:Hp)(s:BF)(a T:BG)(cls fl:BE):Prop where
 inv:Inv X pins σ H s
 fa:H a=none/\X.s₀.heap.get? a=none/\∀p∈X.pn++pins,p.1≠a
 fT:H T=none/\X.s₀.heap.get? T=none/\∀p∈X.pn++pins,p.1≠T
 obj:∃oe vs oT ts a0,s.heap.get? a=some oe/\(oe.cls=cls/\vs[0]? =some a0)/\oe.data=.fields vs/\vs[1]? =some (.ref T)/\T≠a/\s.heap.get? T=some oT/\oT.data=.fields ts/\ts[3]? =some fl
theorem aBj(h:aKs X pins σ H s a T cls fl):∀b∈[a,T],H b=none/\X.s₀.heap.get? b=none/\∀p∈X.pn++pins,p.1≠b:=λb hb=>by
 simp only[aU,fD,or_false] at hb
 rcases hb with rfl|rfl
 ·exact h.fa
 ·exact h.fT
theorem aEP{Q:Unit->BF->Prop}(hst:X.stack=X.env::X.outer/\X.env.frame=some X.env.locals)(hfr:A.frames=some X.stack)(hex:X.ex=[])(h:aKs X pins σ H s a T cls .none)(k:∀h' T',aKs X pins σ H {s with heap:=h'} a T' cls (rawInt X.env.locals)->Q () {s with heap:=h'}):
  AK M A (noteFrame (.ref a) X.env) Q Ex s:=by
 have hS:=aBj h;obtain⟨oe,vs,oT,ts,a0,he,hc,hd,h1,hTe,hT,hdT,h3⟩:=h.obj;have I:=h.inv;have fu:Heap.FunFrames s.heap (oI s.heap<|frs X.stack++[a,T]) X.stack:=oW I.env0.funs λb hb=>jZ<|aZ _ hb
 have fm:=hfr;rw[hst.1] at fm;have fu2:=fu;rw[hst.1] at fu2;have ca:(oI s.heap<|frs X.stack++[a,T]).get? a=none:=jZ (aI _<|by simp);have cT:(oI s.heap<|frs X.stack++[a,T]).get? T=none:=jZ (aI _<|by simp);refine wpAny_noteFrame_onW (base:=oI s.heap<|frs X.stack++[a,T]) (cls:=cls) (a0:=a0) fm (by rw[hst.1];exact fu2) hst.2 ⟨oe,vs,T,oT,ts,he,hc,hd,h1,cT,hTe,hT,hdT,h3⟩ (λb o q=>(rJ q).2) ca λh' L=> ?_
 rw[<-hst.1] at L;obtain⟨k1,k2,⟨oe',vs',T',oT',ts',he',hc',hd',h1',hnT',hTe',hT',hdT',h3'⟩,k4⟩:=L;have I2:=aDi I hS k1 k4
 have Tn:s.heap.get? T'=none\/T'∈[a,T]:=by
  by_cases hm:T'∈frs X.stack++[a,T]
  ·rcases aM.mp hm with hm|hm
   ·obtain⟨_,o,q,nf⟩:=k2.mem hm;rw[hT'] at q;cases q;exact(nf ts' hdT').elim
   ·exact .inr hm
  ·rw[lC hm] at hnT';exact .inl hnT'
 refine k h' T' ⟨I2,h.fa, ?_,oe',vs',oT',ts',a0,he',hc',hd',h1',hTe',hT',hdT',h3'⟩
 rcases Tn with q|q
 ·refine⟨?_, ?_,λp hp z=> ?_⟩
  ·cases g:H T' with
   |none=>rfl
   |some u=>obtain⟨ob,q2⟩:=vH<|I.hok T' u g;rw[q] at q2;cases q2
  ·cases g:X.s₀.heap.get? T' with
   |none=>rfl
   |some o=>obtain⟨o1,q1⟩:=I.base.there T' o g (λhb=>by rw[hex] at hb;cases hb);rw[q] at q1;cases q1
  ·have:=(I.pin p hp).1;rw[z,q] at this;cases this
 ·exact hS T' q
theorem tM{fl:BE}{fr:Option BG}{Q:Unit->BF->Prop}(hst:X.stack=X.env::X.outer/\X.env.frame=some X.env.locals)(h:aKs X pins σ H s a T cls fl)(k:∀h',aKs X pins σ H {s with heap:=h'} a T cls (fr.elim Value.none λf=>rawInt f)->Q () {s with heap:=h'}):
  AK M A (setFlight (.ref a) fr) Q Ex s:=by
 have hS:=aBj h;obtain⟨oe,vs,oT,ts,a0,he,hc,hd,h1,hTe,hT,hdT,h3⟩:=h.obj;have I:=h.inv;have hsz3:3<ts.size:=(Array.getElem?_eq_some_iff.mp h3).1
 have other:∀b,b≠T->(s.heap.update T (Obj.mapFields (·.setIfInBounds 3 (fr.elim Value.none λf=>rawInt f)))).get? b=s.heap.get? b:=
  λb hb=>cO _ _<|Ne.symm hb
 have noRecord:∀b o,s.heap.get? b=some o->(∀vs,o.data≠ .fields vs)->b≠T:=λb o hb hnf q=>by rw[q,hT] at hb;injection hb with hb;subst hb;exact hnf ts hdT
 unfold setFlight;refine AA<|wpAny_field he hd h1 ?_;rw[if_pos (show(Value.ref T !=Value.none)=true from by simp)];refine wpAny_setField hT hdT hsz3<|k _ ⟨aDi I hS (λb o q=> ?_) λb o q nf=>⟨o.slots,(other b<|noRecord b o q nf).trans q⟩,h.fa,h.fT,oe,vs,_,_,a0,(other a<|Ne.symm hTe).trans he,hc,hd,h1,hTe,gC _ hT (Obj.isFreed_of_fields<|Obj.data_mapFields hdT _),Obj.data_mapFields hdT _,by simp[hsz3]⟩;obtain⟨q1,q2⟩:=rJ q;exact(other b λz=>q1 (aI _<|by simp[z])).trans q2
theorem aIJ{body suite:List BK}{b₀:BK}{xE n:Str}{np hpos:Pos}{CE:BG}(j:Nat)(hN:X.N.Nodup)(hj:X.N[j]? =some n)(hloc:X.env.scope.names.lookup n=some .local)(hg:Gl X xE)(hm:X.mg xE=some (.ref CE))(hmt:xD X.K cls (.ref CE)=some true)
  (hb:∀ (ξ:BE->BF->Prop) (pn:List (BG×BJ)) (F:Hp),Takes {X with H₀:=F,B₀:=F,hB:=λ_ _ e _=>e,xe:=ξ,pn:=pn} cls sd->PSd {X with H₀:=F,B₀:=F,hB:=λ_ _ e _=>e,xe:=ξ,pn:=pn} sd body {nx:=λ_=>False,rt:=λ_=>False})
  (hh:∀ (a:BG) (oe:BJ) (pn:List (BG×BJ)),(a,oe)∈pn->oe.cls=cls->PSd {X with A:=X.A.mark (some<|.ref a),calm:=false,pn:=pn,xe:=λ_ _=>False} (sd.set j<|isA a) (b₀::suite) {nx:=λsd'=>E.nx<|sd'.set j .un,rt:=λ_=>False})
  (hB₀:X.B₀=X.H₀:=by rfl) (hex:X.ex=[]:=by rfl) (hst:X.stack=X.env::X.outer/\X.env.frame=some X.env.locals:=by exact⟨rfl,rfl⟩) (hdb:(xE==("__debug__":Str))=false:=by decide):
  PSd1 X sd (.Try body [.ExceptHandler (some<|.Name xE np) (some n) (b₀::suite) hpos] [] [] pos) E:=.mk λσ F H S pins s I=>by
 rw[hB₀] at S;obtain⟨ξ,hξ⟩:∃ξ:BE->BF->Prop,ξ=λe s'=>∃a T σ' F' H',e=.ref a/\Inv X pins σ' H' s'/\StF X.K F F' H' σ' sd/\Exc X.s₀.heap s'.heap H' a T cls/\∀p∈X.pn++pins,p.1≠a/\p.1≠T:=⟨_,rfl⟩
 have I':Inv {X with H₀:=F,B₀:=F,hB:=λ_ _ e _=>e,xe:=ξ,pn:=X.pn++pins} [] σ H s:=aLI I S rfl;have S':StF X.K F F H σ sd:=⟨Same.refl _,S.sub,S.smp,S.slots,S.nd⟩
 have tk:Takes {X with H₀:=F,B₀:=F,hB:=λ_ _ e _=>e,xe:=ξ,pn:=X.pn++pins} cls sd:=λpins' σ' F' H' s' a T I2 S2 x2 hp=>by show ξ _ _;rw[hξ];exact⟨a,T,σ',F',H',rfl,aMM I S rfl I2,S2,x2,λp hp'=>hp p<|aZ _ hp'⟩
 refine wpAny_Try_except<|AY (hb ξ (X.pn++pins) F tk σ F H S' [] s I') (λf s1 q=> ?_) λe s1 hx=> ?_
 ·cases f with
  |next=>obtain⟨_,_,_,_,_,_,_,z⟩:=q;exact z.elim
  |brk=>obtain⟨_,_,_,_,_,_,_,z⟩:=q;exact z.elim
  |cont=>obtain⟨_,_,_,_,_,_,_,z⟩:=q;exact z.elim
  |ret u=>obtain⟨_,_,_,_,_,_,_,z⟩:=q;exact z.elim
 ·have hx:ξ e s1:=hx;rw[hξ] at hx;obtain⟨a,T,σ1,F1,H1,rfl,I1,S1,x1,hp⟩:=hx;have hd:aKs X pins σ1 H1 s1 a T cls .none:=⟨I1,⟨x1.free,x1.new,λp h=>(hp p h).1⟩,⟨x1.freeT,x1.newT,λp h=>(hp p h).2⟩,x1.obj⟩;refine aEP hst I.ok.frames hex hd λh2 T2 hd2=> ?_
  refine tM hst hd2 λh3 hd3=> ?_
  have LT:PySem.W.Looks (AH X.prog X.w) h3 (typeOf<|.ref a) cls:=by obtain⟨oe,vs,oT,ts,a0,he,hc,_⟩:=hd3.obj;exact hc.1▸(PySem.W.Looks.ld he).andThen .now
  refine wpAny_handleBy_cons (codeAny_handlers_test<|Calls.Name_function_global hd3.inv.ok.kind hg (Calls.loadGlobal_global (by rw[hd3.inv.ok.glob];exact hd3.inv.mod.glob.keeps hd3.inv.bk) hm<|(PySem.W.exm_one hd3.inv.kIn LT hmt).at ?_) hdb) (by intro q;cases q);refine codeAny_handlers_suite_as<|tM hst hd3 λh4 hd4=> ?_;obtain⟨oe,vs,oT,ts,a0,he,hc,hdt,_⟩:=hd4.obj
  have fsub:∀b∈X.fs,b∈frs X.stack:=λb hb=>by unfold frs;rw[hst.1,fV,hst.2];exact aF _ hb
  have I5:=hd4.inv.pins_of (pins':=pins++[(a,oe)]) λp hp=>by
   rcases aM.mp hp with hp|hp
   ·exact hd4.inv.pin p<|aI _ hp
   ·rw[aE.mp hp];refine⟨he,hd4.fa.1,λz=> ?_,λz=> ?_,λv z=>by rw[hdt] at z;cases z⟩
    ·obtain⟨m,⟨o,es,ep,ho,r,_⟩,_⟩:=hd4.inv.loc;rw[<-z] at ho;have:oe=o:=bS.inj<|he.symm.trans ho;rw[<-this,hdt] at r;cases r
    ·obtain⟨_,o,q,nf⟩:=hd4.inv.stack.mem<|fsub a z;have:oe=o:=bS.inj<|he.symm.trans q;rw[<-this] at nf;exact nf vs hdt
  refine rY (v:=.ref a) I5 hN hj (.inl hloc) rfl (λs6 I6=> ?_)<|.inr hloc
  have I7:Inv {X with A:=X.A.mark (some<|.ref a),calm:=false,pn:=X.pn++(pins++[(a,oe)]),xe:=λ_ _=>False} [] (σ1.set j (some<|.ref a)) H1 s6:=
   ⟨⟨I6.ok.mod,I6.ok.kind,I6.ok.glob,I6.ok.blt,I6.ok.above,I6.ok.inj,I6.ok.has,I6.ok.cab,λz=>(by cases z),I6.ok.frames,I6.ok.stk,I6.ok.exf,I6.ok.bs,I6.ok.bsz,I6.ok.noex,I6.ok.exfs,I6.ok.funs,I6.ok.frf⟩,I6.os,I6.bare,I6.base,I6.loc,I6.cell,I6.free,I6.freeC,λp hp=>by rw[cM] at hp;exact I6.pin p hp,I6.hok,I6.len⟩
  have S1':StF X.K X.B₀ F1 H1 σ1 sd:=hB₀▸⟨λb o e=>S1.base _ _<|S.base _ _ e,S1.sub,S1.smp,S1.slots,S1.nd⟩;have S7:StF X.K X.B₀ F1 H1 (σ1.set j (some<|.ref a)) (sd.set j<|isA a):=S1'.setX j ⟨.ref a,rfl,λb hb=>(by cases hb),λ_ _ _ _=>rfl⟩ cZ λb hb=>by cases hb
  refine AY (hh a oe _ (by simp) hc.1 (σ1.set j (some<|.ref a)) F1 H1 S7 [] s6 I7) (λf s8 q=> ?_) λ_ _ z=>False.elim z
  cases f with
  |next=>
   obtain⟨σ8,H8,I8,sd8,F8,S8,s8',qn⟩:=q
   have I9:Inv X pins σ8 H8 s8:=⟨I.ok,I8.os,I8.bare,I8.base,I8.loc,I8.cell,I8.free,I8.freeC,fun p hp=>I8.pin p (by
    rw[cM]
    rcases aM.mp hp with hp|hp
    ·exact aZ _ hp
    ·exact aI _ (aZ _ hp)),I8.hok,I8.len⟩
   obtain⟨m,hn,hl⟩:=id I9.loc;refine wpAny_nameGoes_keeps hloc hn (by rw[I9.ok.kind];rfl) λh9 v hn9 hs9=> ?_
   exact⟨σ8.set j none,H8,aGs I9 hN hj hloc hn hl hn9 hs9,sd8.set j .un,F8,⟨S8.base,S8.sub,S8.smp,S8.slots.set (z:=.un) (o:=none) trivial j,(iO (z:=.un) j S8.nd (λl hl=>by cases hl) cZ).1⟩,λb o e=>s8' _ _<|S1.base _ _ e,qn⟩
  |brk=>obtain⟨_,_,_,_,_,_,_,z⟩:=q;exact z.elim
  |cont=>obtain⟨_,_,_,_,_,_,_,z⟩:=q;exact z.elim
  |ret u=>obtain⟨_,_,_,_,_,_,_,z⟩:=q;exact z.elim
variable {a:Expr}
theorem vF{ad C:BG}{oe:BJ}{cv:V}{u:BE}{k:Bool}(hp:(ad,oe)∈X.pn)(hc:oe.cls=.ref C)(xc:aHR X.K C)(ru:∀u',RelV cv u'->u'=u)(hk:bR X.K (.ref C) u=some k):
  kG X (.builtin "isinstance") (λxs H Q=>xs=[.ref ad,cv]/\Q (.bl k) H):=by
 intro pins s σ H xs us Q I r h;obtain⟨rfl,q⟩:=h;obtain⟨u1,u2,rfl,r1,r2⟩:=aHX r;cases(show u1=Value.ref ad from r1);have e:=ru u2 r2;subst e;exact eC (aBl xc) I.kIn ⟨oe,(I.pin _<|aZ _ hp).1,hc⟩ hk (by intro q;cases q) λtk=>⟨.bl k,H,I.tok tk,rfl,q⟩
theorem aFQ(j:Nat){ad C CE:BG}{oe:BJ}{k:Bool}{y:Str}{p p1 p2:Pos}(hp:(ad,oe)∈X.pn)(hc:oe.cls=.ref C)(xc:aHR X.K C)(hg:Gl X "isinstance")(hm:X.mg "isinstance"=none)(hgx:Gl X x)(hmx:X.mg x=some (.ref CE))(hk:bR X.K (.ref C) (.ref CE)=some k)(hj:sd[j]? =some (isA ad))(hy:PE X (.Name y p1) (jO j))(hdb:(x==("__debug__":Str))=false:=by decide)
  (he:AC (.Name y p1::[.Name x p2]) X.env=(false,eval (.Name y p1) X.env)::AC [.Name x p2] X.env:=by rfl) (hpl:(Af pos<|AC [.Name x p2] X.env).any (·.1)=false:=by rfl) (hs2:AC [.Name x p2] X.env=(false,eval (.Name x p2) X.env)::AC [] X.env:=by rfl):
  PEd X sd (.Call (.Name "isinstance" p) [.Name y p1, .Name x p2] [] pos) (.val<|.bl k):=.mk λσ F H S=>
 (kC (vF (cv:=.ref CE) hp hc xc (λu' r=>r) hk) hg hm boot_isinstance (dP hy (dP (mU hgx hmx (v:=.ref CE) rfl hdb) pa_nil hs2) he) (by decide) (by decide) he hpl).to
  ⟨.ref ad,zD S hj,rfl,F,S,Same.refl _,by simp only[ResOk,Rep]⟩
theorem aEN(j:Nat){ad C:BG}{oe:BJ}{k:Bool}{y:Str}{n:String}{p p1 p2:Pos}(hp:(ad,oe)∈X.pn)(hc:oe.cls=.ref C)(xc:aHR X.K C)(hg:Gl X "isinstance")(hm:X.mg "isinstance"=none)(hgx:Gl X x)(hmx:X.mg x=none)(hv:Ae x=some (.type n))(hk:bR X.K (.ref C) (.type n)=some k)(hj:sd[j]? =some (isA ad))(hy:PE X (.Name y p1) (jO j))(hn:x≠"__name__":=by decide)(hdb:(x==("__debug__":Str))=false:=by decide)
  (he:AC (.Name y p1::[.Name x p2]) X.env=(false,eval (.Name y p1) X.env)::AC [.Name x p2] X.env:=by rfl) (hpl:(Af pos<|AC [.Name x p2] X.env).any (·.1)=false:=by rfl) (hs2:AC [.Name x p2] X.env=(false,eval (.Name x p2) X.env)::AC [] X.env:=by rfl):
  PEd X sd (.Call (.Name "isinstance" p) [.Name y p1, .Name x p2] [] pos) (.val<|.bl k):=.mk λσ F H S=>
 (kC (vF (cv:=.ty n) hp hc xc (λu' r=>r) hk) hg hm boot_isinstance (dP hy (dP (aDr hgx hmx hv hn hdb) pa_nil hs2) he) (by decide) (by decide) he hpl).to
  ⟨.ref ad,zD S hj,rfl,F,S,Same.refl _,by simp only[ResOk,Rep]⟩
variable {s':BF}{tg iter:Expr}{Old:BG->Prop}
structure ExcO(Old:BG->Prop)(h:BI)(H:Hp)(a T:BG)(cls:BE):Prop where
 free:H a=none
 new:¬ Old a
 freeT:H T=none
 newT:¬ Old T
 obj:∃oe vs oT ts a0,h.get? a=some oe/\(oe.cls=cls/\vs[0]? =some a0)/\oe.data=.fields vs/\vs[1]? =some (.ref T)/\T≠a/\h.get? T=some oT/\oT.data=.fields ts/\ts[3]? =some .none
def aHn(X:Cx)(Old:BG->Prop)(cls:BE)(sd:List Slot):Prop:=∀ (pins:List (BG×BJ)) (σ:St) (F H:Hp) (s:BF) (a T:BG),Inv X pins σ H s->StF X.K X.B₀ F H σ sd->ExcO Old s.heap H a T cls->(∀p∈X.pn++pins,p.1≠a/\p.1≠T)->X.xe (.ref a) s
def aKM(X:Cx)(Old:BG->Prop):Prop:=∀ (pins:List (BG×BJ)) (σ:St) (H:Hp) (s:BF),Inv X pins σ H s->∀b,Old b->∃o,s.heap.get? b=some o
def Ent(X:Cx):BG->Prop:=λb=>∃o,X.s₀.heap.get? b=some o
theorem aEM(hex:X.ex=[]):aKM X (Ent X):=λpins σ H s I b ⟨o,g⟩=>I.base.there b o g λhb=>by rw[hex] at hb;cases hb
theorem Takes.o(h:Takes X cls sd):aHn X (Ent X) cls sd:=λpins σ F H s a T I S x hp=>
 h pins σ F H s a T I S ⟨x.free,by
  cases g:X.s₀.heap.get? a with
  |none=>rfl
  |some o=>exact(x.new ⟨o,g⟩).elim,x.freeT,by
  cases g:X.s₀.heap.get? T with
  |none=>rfl
  |some o=>exact(x.newT ⟨o,g⟩).elim,x.obj⟩ hp
theorem aFZ{p:Pos}{n:Nat}{dvs:List V}{dws:List BE}{dds:List D}(G:jK X.prog X.w X.K X.mg X.base x k n C cls dvs dws)(hh:aKM X Old)(hr:Room k X.A)(hg:Gl X x)(ha:PAd X sd (e::es) (ds.map R.val))(hdv:∀H,RepL X.K H dds dvs)(hc:C (ds++dds))(hn:ds.length+dds.length=n)(ht:aHn X Old cls sd)
  (hdb:(x==("__debug__":Str))=false:=by decide) (he:AC (e::es) X.env=(false,eval e X.env)::AC es X.env:=by rfl) (hpl:(Af pos<|AC es X.env).any (·.1)=false:=by rfl):
  PEx X sd (.Call (.Name x p) (e::es) [] pos):=⟨fun σ F H S pins s I=>by
 obtain⟨f,fd,ps,hm,hk,bd,hd,G⟩:=G.ex;refine Ad<|rE I hg hm ?_ hdb;refine qD (h₀:=X.base) I.ok.mod.kin hk (thn (ha σ F H S pos pins s I) λus s1 ⟨vs,H1,I1,r,F1,S1,s1',q⟩=>⟨I1.kIn, ?_⟩) he hpl;have rl:RepL X.K H1 (ds++dds) (vs++dvs):=(q.vals.mono S1.sub).app<|hdv H1;refine aDh (Q:=λ_ _=>False) (Ex:=λ_ _ H'=>Same H1 H'/\Smp H') G hr bd hd I1 r ⟨by rw[rl.len,aN];exact hn,S1.smp,ds++dds,rl,hc,λa H' q1 q2=>⟨q1,q2⟩⟩ λe s' hcx=> ?_
 obtain⟨a,T,H',rfl,os,bare,un,hok,x,sH,smH⟩:=hcx;have I2:Inv X pins σ H' s':=I1.call' os un hok bare (λb z=>absurd z<|by simp)
 have nO:∀b,s1.heap.get? b=none->¬ Old b:=λb q z=>by obtain⟨o,g⟩:=hh pins σ H1 s1 I1 b z;rw[q] at g;cases g
 have nw:∀b,s1.heap.get? b=none->∀p∈X.pn++pins,p.1≠b:=λb q p hp z=>by have:=(I1.pin p hp).1;rw[z,q] at this;cases this
 exact ht pins σ F1 H' s' a T I2 ⟨S1.base,S1.sub.trans sH,smH,S1.slots.mono (Same.refl _) λl hl=>⟨(S1.slots.owns hl).1,λob e=>sH _ _ e⟩,S1.nd⟩ ⟨x.free,nO a x.new,x.freeT,nO T x.newT,x.obj⟩ λp hp=>⟨nw a x.new p hp,nw T x.newT p hp⟩⟩
def rSI:V->List V->Hp->VK->Prop:=λx vs H Q=>∃ (l:BG) (k:Key) (y:V) (kvs:List (Key×V)),x=.ref l/\vs=[kV k,y]/\H l=some (.dK kvs)/\kvs.length+1<=AL/\(∀z,fE kvs k=some z->Q z H)/\(fE kvs k=none->Q y (upd H l (.dK<|kvs++[(k,y)])))
theorem aLJ:MtR X "dict.setdefault" rSI:=by
 intro pins s σ H x vs v us Q I rx rv h;obtain⟨l,k,y,kvs,rfl,rfl,hl,hz,q1,q2⟩:=h;obtain rfl:v=Value.ref l:=rx;cases rv with
 |cons r1 rv=>
  obtain⟨u,rfl,ru⟩:=Vals.one rv;obtain⟨z,hd,vs,rel,dd⟩:=aLj I.hok hl;refine call_meetsIn gY dd.typeIs tQ (tG _ _ _) (kt_meets_setdefault (dS X.prog X.w) l (aFk r1) hd u) ⟨vs,dd,by rw[<-rel.length];exact z,λw' hw=> ?_,λhn h' dd' hsm=> ?_⟩
  ·have rl:=rel.val k;rw[hw] at rl;cases hv:fE kvs k with
   |none=>rw[hv] at rl;cases rl
   |some z'=>rw[hv] at rl;exact⟨z',H,I.tok _,rl,q1 z' hv⟩
  ·have hn':fE kvs k=none:=by
    have rl:=rel.val k;rw[hn] at rl;cases hv:fE kvs k with
    |none=>rfl
    |some z'=>rw[hv] at rl;cases rl
   have rp:=rel.put k ru;rw[oF y hn'] at rp;have he:∃q,h'.get? l=some q:=let ⟨q,_,_,hq,_⟩:=dd';⟨q,hq⟩
   exact⟨y,_,nJ (t':=s.toks+1) I (ob:=.dK<|kvs++[(k,y)]) (by rw[hl];exact True.intro) hsm he<|aHC (by rw[aN];exact hz) hd rp dd',ru,q2 hn'⟩
variable {H₀ F' H':Hp}{i:Nat}{l:BG}{ks:List Key}{ls:List BG}{dss:List (List D)}
theorem qM{o:HO}(h:Smp H)(a:BG)(z:aMY o):Smp (upd H a o):=λb u e=>by
 by_cases q:b=a
 ·subst q;rw[bV] at e;cases e;exact z
 ·rw[bI q] at e;exact h _ _ e
variable {ix:Expr}{m:List Bool}
theorem xT:∀ {cs:List BG}{its:List BE},Vals (cs.map V.ref) its->its=cs.map Value.ref
 |[],_,h=>by cases h;rfl
 |a::cs,_,h=>by
  cases h with
  |cons r rv=>rw[xT rv,bA];cases(show _=Value.ref a from r);rfl
theorem aAq{ad C:BG}{oe:BJ}{cs:List BG}{k:Bool}(hp:(ad,oe)∈X.pn)(hc:oe.cls=.ref C)(xc:aHR X.K C)(hk:gU X.K (.ref C) (cs.map Value.ref)=some k):
  kG X (.builtin "isinstance") (λxs H Q=>∃tp,xs=[.ref ad,.ref tp]/\H tp=some (.tup<|cs.map V.ref)/\Q (.bl k) H):=by
 intro pins s σ H xs us Q I r h;obtain⟨tp,rfl,ht,q⟩:=h;obtain⟨u1,u2,rfl,r1,r2⟩:=aHX r;cases(show u1=Value.ref ad from r1);cases(show u2=Value.ref tp from r2);obtain⟨_,its,rv,⟨cls,dd,data,sl⟩,g,c,⟨n,hd⟩,hdd⟩:=I.hok tp _ ht;simp only at c hd hdd;subst c hd hdd;have ei:=xT rv;subst ei;exact PySem.W.kia_tup (aBl xc) I.kIn ⟨oe,(I.pin _<|aZ _ hp).1,hc⟩ g hk (by intro q;cases q) λtk=>⟨.bl k,H,I.tok tk,rfl,q⟩
theorem aEq(j:Nat){ad C C1 C2 C3 C4:BG}{oe:BJ}{k:Bool}{y x1 x2 x3 x4:Str}{x0:Nat}{p p0 p1 p2 p3 p4 tp:Pos}(hp:(ad,oe)∈X.pn)(hc:oe.cls=.ref C)(xc:aHR X.K C)(hg:Gl X "isinstance")(hm:X.mg "isinstance"=none)
  (g1:Gl X x1) (m1:X.mg x1=some (.ref C1)) (g2:Gl X x2) (m2:X.mg x2=some (.ref C2)) (g3:Gl X x3) (m3:X.mg x3=some (.ref C3)) (g4:Gl X x4) (m4:X.mg x4=some (.ref C4)) (hk:gU X.K (.ref C) [.ref C1,.ref C2,.ref C3,.ref C4]=some k) (hj:sd[j]? =some (isA ad)) (hy:PE X (.Name y p0) (jO j))
  (d1:(x1==("__debug__":Str))=false:=by decide) (d2:(x2==("__debug__":Str))=false:=by decide) (d3:(x3==("__debug__":Str))=false:=by decide) (d4:(x4==("__debug__":Str))=false:=by decide)
  (s1:AC [.Name x1 p1, .Name x2 p2, .Name x3 p3, .Name x4 p4] X.env=(false,eval (.Name x1 p1) X.env)::AC [.Name x2 p2, .Name x3 p3, .Name x4 p4] X.env:=by rfl) (s2:AC [.Name x2 p2, .Name x3 p3, .Name x4 p4] X.env=(false,eval (.Name x2 p2) X.env)::AC [.Name x3 p3, .Name x4 p4] X.env:=by rfl)
  (s3:AC [.Name x3 p3, .Name x4 p4] X.env=(false,eval (.Name x3 p3) X.env)::AC [.Name x4 p4] X.env:=by rfl) (s4:AC [.Name x4 p4] X.env=(false,eval (.Name x4 p4) X.env)::AC [] X.env:=by rfl)
  (he:AC (.Name y p0::[.Tuple [.Name x1 p1, .Name x2 p2, .Name x3 p3, .Name x4 p4] x0 tp]) X.env=(false,eval (.Name y p0) X.env)::AC [.Tuple [.Name x1 p1, .Name x2 p2, .Name x3 p3, .Name x4 p4] x0 tp] X.env:=by rfl)
  (hpl:(Af pos<|AC [.Tuple [.Name x1 p1, .Name x2 p2, .Name x3 p3, .Name x4 p4] x0 tp] X.env).any (·.1)=false:=by rfl)
  (hs2:AC [.Tuple [.Name x1 p1, .Name x2 p2, .Name x3 p3, .Name x4 p4] x0 tp] X.env=(false,eval (.Tuple [.Name x1 p1, .Name x2 p2, .Name x3 p3, .Name x4 p4] x0 tp) X.env)::AC [] X.env:=by rfl):
  PEd X sd (.Call (.Name "isinstance" p) [.Name y p0, .Tuple [.Name x1 p1, .Name x2 p2, .Name x3 p3, .Name x4 p4] x0 tp] [] pos) (.val<|.bl k):=.mk λσ F H S=>
 (kC (aAq (cs:=[C1,C2,C3,C4]) hp hc xc hk) hg hm boot_isinstance (dP hy (dP (aCO<|dP (mU g1 m1 (v:=.ref C1) rfl d1) (dP (mU g2 m2 (v:=.ref C2) rfl d2) (dP (mU g3 m3 (v:=.ref C3) rfl d3) (dP (mU g4 m4 (v:=.ref C4) rfl d4) pa_nil s4) s3) s2) s1) pa_nil hs2) he) (by decide) (by decide) he hpl).to
  ⟨.ref ad,zD S hj,by show 4≤AL; decide,fun q hq=>by
   obtain⟨S2,s2⟩:=S.lay (o:=.tup [.ref C1,.ref C2,.ref C3,.ref C4]) hq trivial
   exact⟨q,rfl,bV,_,S2,s2,by simp only[ResOk,Rep]⟩⟩
theorem aGc:Ae "ValueError"=some (.type "ValueError"):=by boot_by_name
theorem aFP{t a b c d:BE}(h1:bR K t a=some false)(h2:bR K t b=some false)(h3:bR K t c=some false)(h4:bR K t d=some false):gU K t [a,b,c,d]=some false:=by rw[gU.eq_def];simp only[h1];rw[gU.eq_def];simp only[h2];rw[gU.eq_def];simp only[h3];rw[gU.eq_def];simp only[h4];rw[gU.eq_def]
theorem aBr{bs:List Bool}{its:List BE}{v:BE}(r:Vals (bs.map V.bl) its)(h:its[i]? =some v):∃b,bs[i]? =some b/\v=.bool b:=by
 have hi:i<its.length:=(aD.mp h).1;have hl:=r.length;rw[aA] at hl;have hb:i<bs.length:=by omega
 obtain⟨u,h1,h2⟩:=r.get (i:=i) (x:=.bl bs[i]) (by simp[hb]);rw[h] at h1;cases h1;exact⟨bs[i],by simp[hb],h2⟩
theorem aBI(bs:List Bool):((bM bs.length).all λi=>(bs[i]?).getD true)=bs.all id:=by
 apply gM.mpr;simp only[cR,cE,id_eq]
 constructor
 ·intro h b hb;obtain⟨i,hi,rfl⟩:=cI hb;have:=h i hi;simpa[hi] using this
 ·intro h i hi;have:=h bs[i]<|fZ hi;simpa[hi] using this
theorem aEJ(hc:X.calm=true):kG X (.builtin "all") (λxs H Q=>∃ (a:BG) (bs:List Bool),xs=[.ref a]/\SqL X.K H a (bs.map V.bl)/\Q (.bl<|bs.all id) H):=by
 intro pins s σ H xs us Q I r h;obtain⟨a,bs,rfl,ha,q⟩:=h;obtain⟨u,rfl,ru⟩:=oE r;cases ru;obtain⟨its,rv,p,hz⟩:=I.list ha;have hl:=rv.length;rw[aA] at hl;have isl:s.heap.IsList a its.toArray:=p.isList;have alt:a<s.heap.objs.size:=by obtain⟨o,ho,_⟩:=isl;exact aR ho
 refine call_all_walk<|Ay isl ?_;refine⟨s.heap.objs.size,[s.heap.objs.size,a],[s.heap.objs.size],its.toArray.size,_,_,λi=>(bs[i]?).getD true,rfl,Walks.list (A:=X.A.in1) (I.ok.hd hc) _ a (bN alt) its.toArray,⟨⟨_,bK _ rfl,rfl,rfl⟩,isl.push _⟩,λi v s' Q' E' hP hQ=> ?_,λh' tk hk=> ?_⟩
 ·obtain⟨b,e,rfl⟩:=aBr rv (by simpa using hP);simp only[e,aGC] at hQ;exact AZ hQ
 ·have e:((bM its.toArray.size).all λi=>(bs[i]?).getD true)=bs.all id:=by rw[aY,<-hl];exact aBI bs
  rw[e]
  exact ⟨.bl (bs.all id),H,I.kept (t':=tk) fun b o g=>hk b o (fun z=>by
   have z:b=s.heap.objs.size:=by simpa using z
   exact absurd (aR g) (by rw[z];exact eD _)) (aJ _ g),rfl,q⟩
theorem RepL.bls{K:aB}{H:Hp}:∀ {bs:List Bool}{xs:List V},RepL K H (bs.map D.bl) xs->xs=bs.map V.bl
 |[],xs,r=>by simpa only[dL,RepL] using r
 |n::ns,xs,r=>by rw[bA] at r;obtain⟨y,ys,rfl,a,rl⟩:=r.uncons;simp only[Rep] at a;rw[a,RepL.bls rl];rfl
theorem aJU{p:Pos}{bs:List Bool}(hg:Gl X "all")(hm:X.mg "all"=none)(ha:PEd X sd e (.bor<|bs.map D.bl))(hc:X.calm=true:=by rfl)(hst:AC [e] X.env=(false,eval e X.env)::AC [] X.env:=by rfl):PEd X sd (.Call (.Name "all" p) [e] [] pos) (.val (.bl<|bs.all id)):=
 mC (he:=hst) (aEJ hc) hg hm boot_all (aC ha aO trivial hst) λσ F H vs Q S q k=>by
  cases q with
  |cons q1 q2=>cases q2;obtain⟨p,xs,rfl,hp,rl,_⟩:=q1;exact⟨p,bs,rfl,.of (by rw[<-rl.bls];exact hp),k _ F H S (Same.refl _)<|by simp only[ResOk,Rep]⟩
def fY(L:List SK)(row:List Nat):Prop:=∀t∈row,t<L.length
def aHh:List D->R->Prop:=λds r=>∃ (L:List SK) (row:List Nat),fY L row/\row.length<=900/\ds=[.lst<|L.map skD,.tup<|cD row]/\r=.val (.bl true)
theorem aLm{G K:Prop}(h:K->G)(k:K):G:=h k
section
variable {prog:AF}{w:AM}{κ:Type}[DecidableEq κ](knd:KeyKind prog w κ)
def Row2(h:BI)(ks:List (List κ))(vs:List BE):Prop:=ks.length=vs.length/\∀ (n:Nat) (k:List κ),ks[n]? =some k->∃b,vs[n]? =some (.ref b)/\(AQ knd).is h k b
def IsT2(h:BI)(ks:List (List κ))(a:BG):Prop:=∃ (o:BJ) (vs:Array BE) (c:Nat),h.get? a=some o/\o.cls=.type "tuple"/\o.data=.seq vs c/\Row2 knd h ks vs.toList
variable {knd}
theorem Row2.inj{h:BI}{x y:List (List κ)}{vs:List BE}(p:Row2 knd h x vs)(q:Row2 knd h y vs):x=y:=by
 refine nN (p.1.trans q.1.symm) λn n1 n2=> ?_
 obtain⟨b,e1,t1⟩:=p.2 n _<|eV n1;obtain⟨c,e2,t2⟩:=q.2 n _<|eV n2;rw[e1] at e2;cases e2;exact(AQ knd).inj t1 t2
theorem IsT2.ty{s:BF}{ks:List (List κ)}{a:BG}:IsT2 knd s.heap ks a->s.TypeIs (.ref a) "tuple"
 |⟨o,_,_,g,c,_⟩=>⟨o,g,c⟩
theorem IsT2.one{h:BI}{a:BG}{x y:List (List κ)}(p:IsT2 knd h x a)(q:IsT2 knd h y a):x=y:=by obtain⟨o,vs,c,g,_,d,r⟩:=p;obtain⟨o2,vs2,c2,g2,_,d2,r2⟩:=q;cases g.symm.trans g2;cases d.symm.trans d2;exact r.inj r2
theorem IsT2.stay{h h':BI}{ks:List (List κ)}{a d:BG}{o:BJ}{es ep}(p:IsT2 knd h ks a)(g:h.get? d=some o)(e:o.data=.dict es ep)(sb:Heap.SameBut d h h'):IsT2 knd h' ks a:=by
 obtain⟨o2,vs,c,g2,t,e2,r⟩:=p
 have ne:a≠d:=λz=>by subst z;cases g.symm.trans g2;cases e.symm.trans e2
 exact⟨o2,vs,c,(sb.2 a ne).trans g2,t,e2,r.1,λn k hk=>let ⟨b,q1,q2⟩:=r.2 n k hk;⟨b,q1,(AQ knd).keeps q2 g e sb⟩⟩
theorem Row2.step{h:BI}{ks:List (List κ)}{vs:List BE}{v:BE}(p:Row2 knd h ks (v::vs)):∃k ks' b,ks=k::ks'/\v=.ref b/\(AQ knd).is h k b/\Row2 knd h ks' vs:=by
 cases ks with
 |nil=>cases p.1
 |cons k ks'=>obtain⟨b,q1,q2⟩:=p.2 0 k rfl;cases q1;exact⟨k,ks',b,rfl,rfl,q2,aHN.inj p.1,λn k' hk=>p.2 (n+1) k' hk⟩
theorem Row2.none{h:BI}{ks:List (List κ)}(p:Row2 knd h ks []):ks=[]:=cQ p.1
noncomputable def aIf(knd:KeyKind prog w κ)(ks:List (List κ)):Int:=reduceHash (Builtin.Tuple.tupleHashOf<|ks.map (AQ knd).hash)
noncomputable def nA:List (List κ)->Nat
 |[]=>0
 |k::ks=>k.length+1+nA ks
variable {A:BH}{E:BE->BF->Prop}{s:BF}
theorem aEB{ks:List (List κ)}{a:BG}{Q:Int->BF->Prop}(hu:A.units+1<AO)(p:IsT2 knd s.heap ks a)(q:Q (aIf knd ks) {s with toks:=s.toks+(nA ks+1)}):AK (AH prog w) A (PySem.pyHash<|.ref a) Q E s:=by
 have ty:=p.ty;obtain⟨o,vs,c,g,_,e,r⟩:=p;unfold PySem.pyHash pyHashByItsType;refine AA<|wpAny_cRoomFor_or (.inr<|aKj hu) (AA<|BC ty F.slot_tuple_hash.lookup ?_);refine BD (λz=>absurd z<|by rw[beq_builtin_none];exact bF) λ_=> ?_
 refine AA<|BC ty F.slot_tuple_hash.lookup (AA<|wpAny_callSpecialIfBoundUnlessNone?_slot ty F.slot_tuple_hash (Al F.slot_tuple_hash ty F.entry_tuple_hash ?_<|F.args_tuple_hash_1 _));refine AA (m:=Builtin.Tuple.tupleItemsOf<|.ref a) (wpAny_tupleItemsOf g e<|AA ?_);rw[<-sA];refine BB _ (λrest (acc:Array Int) st=>∃todo,Row2 knd s.heap todo rest/\acc.toList++todo.map (AQ knd).hash=ks.map (AQ knd).hash/\st={s with toks:=st.toks}/\st.toks+nA todo=s.toks+nA ks) _ (λv rest acc st h=> ?_) (λacc st h=> ?_) _ _ ⟨ks,r,rfl,rfl,rfl⟩
 ·obtain⟨todo,r1,e1,e2,e3⟩:=h;obtain⟨k,ks',b,rfl,rfl,t,r2⟩:=r1.step;rw[e2];refine AA ((AQ knd).pyHash (k:=k) (show _<AO from ?_) t ?_)
  ·exact hu
  ·have nx:∃todo,Row2 knd s.heap todo rest/\(acc.push<|(AQ knd).hash k).toList++todo.map (AQ knd).hash=ks.map (AQ knd).hash/\({s with toks:=st.toks+(k.length+1)}:BF)={s with toks:=st.toks+(k.length+1)}/\st.toks+(k.length+1)+nA todo=s.toks+nA ks:=⟨ks',r2,by rw[<-e1];simp,rfl,by rw[<-e3];show _=_+(_+_);omega⟩
   first|exact AB nx|exact AA (AB<|AB nx)
 ·obtain⟨todo,r1,e1,e2,e3⟩:=h;cases r1.none;rw[dL,cM] at e1;rw[e2]
  have tk:st.toks+1=s.toks+(nA ks+1):=by have:st.toks+0=s.toks+nA ks:=e3;omega
  show AK _ _ (retInt<|Builtin.Tuple.tupleHashOf acc.toList) _ _ _;rw[e1];unfold aIf reduceHash at q;rw[<-tk] at q;refine wpAny_ret_mkInt ?_;refine BD (λz=>AB ?_) λz=>AA (At<|AB ?_)
  ·rw[if_pos z] at q;exact q
  ·rw[if_neg z] at q;exact q
theorem aJb{x y:List (List κ)}{a b:BG}{R:Fin->BF->Prop}(hu:A.units<AO)(p:IsT2 knd s.heap x a)(q:IsT2 knd s.heap y b)(h:R (.done (.ret<|.bool (decide<|x=y))) s):AK (AH prog w) A (Builtin.«tuple.__eq__» ⟨[.ref a,.ref b],[]⟩) R E s:=by
 have ty:=q.ty;obtain⟨oa,us,_,ga,_,ea,ra⟩:=p;obtain⟨ob,vs,_,gb,_,eb,rb⟩:=q;refine AA (m:=isInstance (.ref b)<|.type "tuple")<|wpAny_isInstance ty isSubtype_tuple_tuple ?_;rw[if_neg<|by decide];refine AA (wpAny_tupleItemsOf ga ea<|AA (wpAny_tupleItemsOf gb eb<|AA ?_));have lu:us.size=x.length:=by rw[ra.1,bZ]
 have lv:vs.size=y.length:=by rw[rb.1,bZ]
 refine BB _ (λrest acc st=>acc.1=none/\st=s/\∃xs ys us' vs',rest=us'.zip vs'/\Row2 knd s.heap xs us'/\Row2 knd s.heap ys vs'/\(x=y↔xs=ys)/\(x.length=y.length↔xs.length=ys.length)) _ (λv rest acc st i=> ?_) (λacc st i=> ?_) _ _ ⟨rfl,rfl,x,y,us.toList,vs.toList,rfl,ra,rb,Iff.rfl,Iff.rfl⟩
 ·obtain⟨_,rfl,xs,ys,us',vs',z,r1,r2,i1,i2⟩:=i;cases us' with
  |nil=>simp at z
  |cons u us'=>
   cases vs' with
   |nil=>simp at z
   |cons v' vs'=>
    obtain⟨k,xs',c,rfl,rfl,t1,r1⟩:=r1.step;obtain⟨j,ys',c',rfl,rfl,t2,r2⟩:=r2.step;rw[dM] at z;cases z;refine AA<|(AQ knd).eqBool (x:=k) (y:=j) hu t1 t2 ?_
    by_cases e:k=j
    ·rw[decide_eq_true e,if_neg<|by decide];exact AB ⟨rfl,rfl,xs',ys',us',vs',rfl,r1,r2,i1.trans ⟨λz=>(uP.inj z).2,λz=>by rw[e,z]⟩,i2.trans ⟨aHN.inj,congrArg _⟩⟩
    ·rw[decide_eq_false e,if_pos<|by decide];rw[decide_eq_false λz=>e (uP.inj<|i1.mp z).1] at h;exact AA<|AB (AB<|AB h)
 ·obtain⟨n0,rfl,xs,ys,us',vs',z,r1,r2,i1,i2⟩:=i;obtain⟨a1,a2⟩:=acc;cases n0
  have fin:(us.size==vs.size)=decide (x=y):=by
   rw[lu,lv]
   by_cases e:x.length=y.length
   ·have l2:=i2.mp e
    have:xs=ys:=by
     cases us' with
     |nil=>cases r1.none;exact(cQ l2.symm).symm
     |cons u us'=>
      cases vs' with
      |nil=>cases r2.none;exact cQ l2
      |cons v vs'=>cases z
    rw[decide_eq_true<|i1.mpr this,e];exact beq_self_eq_true _
   ·rw[decide_eq_false λz=>e<|congrArg _ z];exact beq_eq_false_iff_ne.mpr e
  rw[<-fin] at h;exact AB h
theorem aFR{x y:List (List κ)}{a b:BG}{Q:Bool->BF->Prop}(hu:A.units+1<AO)(p:IsT2 knd s.heap x a)(q:IsT2 knd s.heap y b)(h:Q (decide<|x=y) s):AK (AH prog w) A (PySem.eqBool (.ref a)<|.ref b) Q E s:=by
 unfold PySem.eqBool
 try with_reducible refine Ah ?_
 refine BD (λz=> ?_) λ_=>AA (wpAny_richCompare_same_room (op:= .Eq) p.ty q.ty F.slot_tuple_eq (Al F.slot_tuple_eq p.ty F.entry_tuple_eq (aJb (show _<AO from hu) p q ⟨_,rfl,(λe=>nomatch e),AZ h⟩)<|F.args_tuple_eq_2 _ _)<|aKj hu)
 cases eq_of_beq z;cases p.one q;rw[decide_eq_true rfl] at h;exact AA (At<|AB h)
theorem aBS(m:Nat){k:List κ}{a:BG}{Q:Bool->BF->Prop}(p:(AQ knd).is s.heap k a)(h:Q true s):AK (AH prog w) A (eqIsQuiet (m+1)<|.ref a) Q E s:=by
 have ty:=IsTupleKey.typeIs p;obtain⟨o,vs,c,g,_,e,r⟩:=p;have bv:=r.byValue;unfold eqIsQuiet;refine AA<|BC ty F.slot_tuple_eq.lookup (AA (m:=isInstance (.ref a)<|.type "tuple")<|wpAny_isInstance ty isSubtype_tuple_tuple ?_);rw[if_neg<|by decide];refine AA (wpAny_seqItems g e<|AA (m:=forIn vs _ _) ?_);rw[<-sA];refine BB _ (λrest acc st=>acc.1=none/\st=s/\∀v∈rest,carriedByValue v=true) _ (λv rest acc st i=> ?_) (λacc st i=> ?_) _ _ ⟨rfl,rfl,bv⟩
 ·obtain⟨_,rfl,i⟩:=i;rw[eqIsQuiet_byValue _<|i v aG];refine AA<|AB ?_;rw[if_neg<|by decide];exact AB ⟨rfl,rfl,λu hu=>i u<|aF _ hu⟩
 ·obtain⟨n0,rfl,_⟩:=i;obtain⟨a1,a2⟩:=acc;cases n0;exact AB h
theorem aBN{ks:List (List κ)}{a:BG}{Q:Bool->BF->Prop}(p:IsT2 knd s.heap ks a)(h:Q true s):AK (AH prog w) A (eqIsQuiet 8<|.ref a) Q E s:=by
 have ty:=p.ty;obtain⟨o,vs,c,g,_,e,r⟩:=p;unfold eqIsQuiet;refine AA<|BC ty F.slot_tuple_eq.lookup (AA (m:=isInstance (.ref a)<|.type "tuple")<|wpAny_isInstance ty isSubtype_tuple_tuple ?_);rw[if_neg<|by decide];refine AA (wpAny_seqItems g e<|AA (m:=forIn vs _ _) ?_);rw[<-sA];refine BB _ (λrest acc st=>acc.1=none/\st=s/\∃todo,Row2 knd s.heap todo rest) _ (λv rest acc st i=> ?_) (λacc st i=> ?_) _ _ ⟨rfl,rfl,ks,r⟩
 ·obtain⟨_,rfl,todo,i⟩:=i;obtain⟨k,ks',b,rfl,rfl,t,r2⟩:=i.step;refine AA<|aBS 6 t ?_;rw[if_neg<|by decide];exact AB ⟨rfl,rfl,ks',r2⟩
 ·obtain⟨n0,rfl,_⟩:=i;obtain⟨a1,a2⟩:=acc;cases n0;exact AB h
end
noncomputable def aOi{prog:AF}{w:AM}{κ:Type}[DecidableEq κ](knd:KeyKind prog w κ):HeapKind prog w (List<|List κ) where
 is:=IsT2 knd
 hash:=aIf knd
 draws:=λks=>nA ks+1
 room:=λA=>A.units+1<AO
 inj:=λp q=>p.one q
 keeps:=λp g e sb=>p.stay g e sb
 pyHash:=λhu p q=>aEB hu p q
 eqBool:=λhu p q h=>aFR hu p q h
 quiet:=λp h=>aBN p h
structure HK(P:AF)(w:AM)(κ:Type)[DecidableEq κ] where
 kind:HeapKind P w κ
 rel:Hp->κ->BG->Prop
 mono:∀ {F F':Hp}{k:κ}{a:BG},Same F F'->rel F k a->rel F' k a
 ok:∀ {H:Hp}{h:BI}{k:κ}{a:BG},HOk P w H h->rel H k a->kind.is h k a
 room:∀ {A:BH},A.units+2<AO->kind.room A.in1
 dat:κ->D
 key:∀ {K:aB}{F:Hp}{k:κ}{v:V},Rep K F (dat k) v->∃a,v=.ref a/\rel F k a
 back:∀ {K:aB}{F:Hp}{k:κ}{a:BG},rel F k a->Rep K F (dat k) (.ref a)
theorem rM{K:aB}{F:Hp}:∀k:List Key,RepL K F (k.map kD) (k.map kV)
 |[]=>.nil
 |a::k=>by refine .cons ?_ (rM k);cases a<;>simp only[kD,kV,Rep]
noncomputable def tD(k:List Key):D:=.tup<|k.map kD
noncomputable def hkT(P:AF)(w:AM):HK P w (List Key) where
 kind:=AQ<|dS P w
 rel:=λF k a=>F a=some (.tup<|k.map kV)
 mono:=λs h=>s _ _ h
 ok:=λok h=>nH ok h
 room:=λhu=>Am<|by omega
 dat:=tD
 key:=λr=>by simp only[tD,Rep] at r;obtain⟨a,ys,rfl,ha,rl⟩:=r;rw[oK rl] at ha;exact⟨a,rfl,ha⟩
 back:=λ{K F k a} h=>by simp only[tD,Rep];exact⟨a,_,rfl,h,rM k⟩
inductive R2k(F:Hp):List (List Key)->List V->Prop
 |nil:R2k F [] []
 |cons {k:List Key}{b:BG}{ks:List (List Key)}{vs:List V}:F b=some (.tup<|k.map kV)->R2k F ks vs->R2k F (k::ks) (.ref b::vs)
theorem R2k.mono(s:Same F F'){ks:List (List Key)}{vs:List V}(r:R2k F ks vs):R2k F' ks vs:=by
 induction r with
 |nil=>exact .nil
 |cons h _ ih=>exact .cons (s _ _ h) ih
theorem Row2.cons{P:AF}{w:AM}{κ:Type}[DecidableEq κ]{knd:KeyKind P w κ}{h:BI}{k:List κ}{b:BG}{ks:List (List κ)}{vs:List BE}(t:(AQ knd).is h k b)(r:Row2 knd h ks vs):Row2 knd h (k::ks) (.ref b::vs):=
 ⟨congrArg (·+1) r.1,fun n k' e=>by
  cases n with
  |zero=>cases e;exact⟨b,rfl,t⟩
  |succ n=>exact r.2 n k' e⟩
theorem R2k.ok{P:AF}{w:AM}{H:Hp}{h:BI}(ok:HOk P w H h){ks:List (List Key)}{vs:List V}(r:R2k H ks vs):∀ {us:List BE},Vals vs us->Row2 (dS P w) h ks us:=by
 induction r with
 |nil=>intro us q;cases q;exact⟨rfl,λn k e=>by simp at e⟩
 |cons hb _ ih=>
  intro us q;cases q with
  |cons r1 rv=>cases(show _=Value.ref _ from r1);exact Row2.cons (nH ok hb)<|ih rv
theorem R2k.of{K:aB}{F:Hp}:∀ {ks:List (List Key)}{vs:List V},RepL K F (ks.map tD) vs->R2k F ks vs
 |[],vs,r=>by simp only[dL,RepL] at r;subst r;exact .nil
 |k::ks,vs,r=>by rw[bA] at r;obtain⟨y,ys,rfl,q,rl⟩:=r.uncons;simp only[tD,Rep] at q;obtain⟨a,zs,rfl,ha,rl2⟩:=q;rw[oK rl2] at ha;exact .cons ha<|R2k.of rl
theorem R2k.rep{ks:List (List Key)}{vs:List V}(r:R2k F ks vs):RepL K F (ks.map tD) vs:=by
 induction r with
 |nil=>exact .nil
 |@cons k b ks vs h _ ih=>refine .cons ?_ ih;simp only[tD,Rep];exact⟨b,_,rfl,h,rM k⟩
noncomputable def hkN(P:AF)(w:AM):HK P w (List<|List Key) where
 kind:=aOi<|dS P w
 rel:=λF ks a=>∃vs,F a=some (.tup vs)/\R2k F ks vs
 mono:=λs ⟨vs,h,r⟩=>⟨vs,s _ _ h,r.mono s⟩
 ok:=λ{H h k a} ok ⟨vs,e,r⟩=>by obtain⟨_,its,rv,o,h1,h2,⟨n,h3⟩,_⟩:=(show ObjOk P w H h a (.tup vs) from ok a _ e);exact⟨o,its.toArray,n,h1,h2,h3,by simpa using r.ok ok rv⟩
 room:=λ{A} hu=>by show A.in1.units+1<AO;exact hu
 dat:=λks=>.tup<|ks.map tD
 key:=λr=>by simp only[Rep] at r;obtain⟨a,ys,rfl,ha,rl⟩:=r;exact⟨a,rfl,ys,ha,R2k.of rl⟩
 back:=λ{K F k a} ⟨vs,h,r⟩=>by simp only[Rep];exact⟨a,vs,rfl,h,r.rep⟩
section
variable {P:AF}{w:AM}{κ:Type}[DecidableEq κ](hk:HK P w κ)
abbrev KG(F:Hp):List (κ×V)->List (κ×BG×BE)->Prop:=Paired λp q=>p.1=q.1/\hk.rel F p.1 q.2.1/\RelV p.2 q.2.2
def TG(K:aB)(F:Hp)(l:BG)(o:BJ)(ks:List κ)(ds:List D):Prop:=
 ks.length=ds.length/\ks.length<=AL/\(l==AW)=false/\ks.Nodup/\∃ (vs:List V) (xs:List (κ×BG×BE)) (es:Array DictEntry) (ep:Nat),RepL K F ds vs/\KG hk F (ks.zip vs) xs/\o.ExactDict/\o.data=.dict es ep/\es.toList=xs.map (entryOfKey hk.kind)/\(xs.map (·.1)).Nodup
variable {hk}{K:aB}{F F' H:Hp}{l:BG}{o:BJ}{ks:List κ}{ds:List D}
theorem KG.mono{kvs:List (κ×V)}{xs:List (κ×BG×BE)}(s:Same F F')(r:KG hk F kvs xs):KG hk F' kvs xs:=Paired.mapP r λ_ _ z=>⟨z.1,hk.mono s z.2.1,z.2.2⟩
theorem TG.mono(s:Same F F')(t:TG hk K F l o ks ds):TG hk K F' l o ks ds:=by obtain⟨h1,h2,h3,h4,vs,xs,es,ep,r,g,q⟩:=t;exact⟨h1,h2,h3,h4,vs,xs,es,ep,r.mono s,g.mono s,q⟩
theorem KG.all{h:BI}(ok:HOk P w H h){l:List (κ×V)}{m:List (κ×BG×BE)}(q:KG hk H l m):∀x∈m,hk.kind.is h x.1 x.2.1:=by
 induction q with
 |nil=>intro x hx;exact nomatch hx
 |@cons p q ps qs hq t ih=>
  intro x hx
  rcases aU.mp hx with e|hx
  ·subst e;exact hk.ok ok (by rw[<-hq.1];exact hq.2.1)
  ·exact ih x hx
theorem KG.val{kvs:List (κ×V)}{xs:List (κ×BG×BE)}(r:KG hk F kvs xs)(k:κ):RelO (fE kvs k) ((atKey xs k).map (·.2)):=by
 induction r with
 |nil=>exact True.intro
 |@cons p q ps qs h t ih=>
  obtain⟨h1,_,h2⟩:=h
  by_cases e:p.1=k
  ·have e':q.1=k:=h1.symm.trans e;have b:atKey (q::qs) k=some q.2:=by simp[atKey,gL,e']
   rw[gH e,b];exact h2
  ·have e':¬ q.1=k:=λz=>e (h1.trans z)
   have b:atKey (q::qs) k=atKey qs k:=by simp[atKey,gL,e']
   rw[fF e,b];exact ih
theorem KG.new{kvs:List (κ×V)}{xs:List (κ×BG×BE)}(r:KG hk F kvs xs){k:κ}(hn:fE kvs k=none){b:BG}{y:V}{u:BE}(hb:hk.rel F k b)(ry:RelV y u):KG hk F (kvs++[(k,y)]) (storedH xs k b u):=by
 have e:atKey xs k=none:=by
  have:=r.val k;rw[hn] at this;cases h:atKey xs k with
  |none=>rfl
  |some z=>rw[h] at this;cases this
 rw[storedH_new e];exact Paired.snoc r ⟨rfl,hb,ry⟩
theorem mF{k:κ}:∀ {ks:List κ}{xs:List V},k∉ks->fE (ks.zip xs) k=none
 |[],_,_=>rfl
 |_::_,[],_=>rfl
 |j::js,x::xs,h=>by rw[dM,fF (p:=(j,x)) (k:=k) (λe=>h<|(show j=k from e)▸aG)];exact mF λz=>h<|aF _ z
theorem uM:∀ {ks:List κ}{xs:List V}{n:Nat}{k:κ}{x:V},ks.Nodup->ks[n]? =some k->xs[n]? =some x->fE (ks.zip xs) k=some x
 |[],_,n,_,_,_,h,_=>by simp at h
 |_::_,[],n,_,_,_,_,h=>by simp at h
 |j::js,y::ys,0,k,x,nd,h1,h2=>by
  have e1:j=k:=by simpa using h1
  have e2:y=x:=by simpa using h2
  rw[dM,gH e1,e2]
 |j::js,y::ys,n+1,k,x,nd,h1,h2=>by
  obtain⟨nj,nd⟩:=bH.mp nd;have h1:js[n]? =some k:=by simpa using h1
  have h2:ys[n]? =some x:=by simpa using h2
  rw[dM,fF (p:=(j,y)) (k:=k) (λe=>nj<|(show j=k from e)▸aK h1)];exact uM nd h1 h2
theorem sQ{k:κ}{ks:List κ}{xs:List V}(nd:ks.Nodup)(hl:ks.length=xs.length)(h:k∈ks):(fE (ks.zip xs) k).isSome=true:=by obtain⟨n,hn,rfl⟩:=cI h;rw[uM (n:=n) (x:=xs[n]'(by omega)) nd (by simp[hn])<|by simp[show n<xs.length by omega]];rfl
theorem TG.dict{h:BI}(ok:HOk P w H h)(s:Same F H)(hl:H l=some (exO l o))(t:TG hk K F l o ks ds):∃ (vs:List V) (xs:List (κ×BG×BE)),RepL K F ds vs/\KG hk F (ks.zip vs) xs/\h.DictOfH hk.kind l xs/\xs.length<=AL/\(∀k,(atKey xs k).isSome=decide (k∈ks)):=by
 obtain⟨h1,h2,h3,h4,vs,xs,es,ep,r,g,q1,q2,q3,q4⟩:=t;have ho:h.get? l=some o:=(ok l _ hl).1;refine⟨vs,xs,r,g,⟨o,es,ep,ho,q1,q2,q3,KG.all ok<|g.mono s,q4⟩, ?_,λk=> ?_⟩
 ·rw[<-Paired.length g,jH,r.len,<-h1,oR];exact h2
 ·have:=(g.val k).isSome_eq;rw[aFg] at this;rw[<-this]
  by_cases e:k∈ks
  ·rw[decide_eq_true e];exact sQ h4 (by rw[r.len,h1]) e
  ·rw[decide_eq_false e,mF e];rfl
end
section
variable {P:AF}{w:AM}{κ:Type}[DecidableEq κ]
def GG(hk:HK P w κ)(K:aB)(l:BG)(ks:List κ)(ds:List D):V->Hp->Hp->Prop:=λv F H=>v=.ref l/\∃o,H l=some (exO l o)/\TG hk K F l o ks ds
noncomputable def oG(hk:HK P w κ)(K:aB)(l:BG)(ks:List κ)(ds:List D):Slot:=.ox [l]<|GG hk K l ks ds
noncomputable def gD(hk:HK P w κ)(K:aB)(ks:List κ)(ds:List D):D:=.any λv F=>∃l o,v=.ref l/\F l=some (exO l o)/\TG hk K F l o ks ds
variable {hk:HK P w κ}{K:aB}{H₀ F H:Hp}{σ:St}{sd:List Slot}{i:Nat}{l:BG}{ks:List κ}{ds:List D}{o:BJ}
theorem TG.cell(t:TG hk K F l o ks ds):∀v,o.data≠ .cell v:=λv z=>by obtain⟨_,_,_,_,_,_,_,_,_,_,_,q,_⟩:=t;rw[q] at z;cases z
theorem wX(S:StF K H₀ F H σ sd)(hs:sd[i]? =some (oG hk K l ks ds)):σ[i]? =some (some<|.ref l)/\F l=none/\∃o,H l=some (exO l o)/\TG hk K F l o ks ds:=by
 obtain⟨o,h1,v,h2,h3,h4⟩:=S.slots.get hs;obtain⟨e,ob,a,b⟩:=h4 F H (Same.refl _) λ_ _ _ q=>q
 subst e h2;exact⟨h1,(h3 l<|bL l).1,ob,a,b⟩
theorem aLr(hF:F l=none)(h1:H l=some (exO l o))(t:TG hk K F l o ks ds):gQ K F H (oG hk K l ks ds) (some<|.ref l):=
 ⟨.ref l,rfl,fun a ha=>by
  rw[aE.mp ha]
  exact⟨hF,_,h1,o,rfl,t.cell⟩,λF' H' s k=>⟨rfl,o,k l (bL l) _ h1,t.mono s⟩⟩
theorem gD_rep{v:V}:Rep K F (gD hk K ks ds) v↔∃l o,v=.ref l/\F l=some (exO l o)/\TG hk K F l o ks ds:=by
 simp only[gD,Rep]
 constructor
 ·exact λh=>h.2 F<|Same.refl _
 ·rintro⟨l,o,rfl,e,t⟩;exact⟨⟨l,rfl⟩,λF' s=>⟨l,o,rfl,s _ _ e,t.mono s⟩⟩
end
section
variable {X:Cx}{sd:List Slot}{e a b c tg iter:Expr}{es:List Expr}{pos:Pos}{d:D}{ds:List D}{κ:Type}[DecidableEq κ]{hk:HK X.prog X.w κ}{ks:List κ}{k:κ}{E:iJ}{l:BG}
theorem qI(hk:HK X.prog X.w κ)(i:Nat){x:Str}{p p2:Pos}(hN:X.N.Nodup)(hi:X.N[i]? =some x)(hx:Loc X.env.scope x)(hE:∀l,E.nx (sd.set i<|oG hk X.K l [] []))(hs:AX (.Dict [] [] p2) (some<|.Name x p) pos.line X.env=pure false:=by rfl)
  (hf:X.fn x=true\/X.env.scope.names.lookup x=some .local:=by first|exact .inl rfl|exact .inr rfl|assumption):PSd1 X sd (.Assign [.Name x p] (.Dict [] [] p2) pos) E:=.mk λσ F H S=>
 (nY hN hi hx aAU hs hf).to λq hq hm=>by
  have fp:F q=none:=S.sub.free hq
  have no:q∉cA sd:=λhl=>by obtain⟨_,ob,h,_⟩:=S.slots.owns hl;rw[hq] at h;cases h
  have S1:StF X.K X.B₀ F (upd H q<|exO q aFl) σ sd:=by
   refine⟨S.base,λb u e=> ?_,mG S.smp q,S.slots.mono (Same.refl _) λl hl=> ?_,S.nd⟩
   ·rw[bI<|cC e fp];exact S.sub _ _ e
   ·obtain⟨n,ys,y,_⟩:=S.slots.owns hl;have hne:l≠q:=cC y hq;exact⟨n,λys e=>by rw[bI hne];exact e⟩
  refine⟨_,F,S1.setT i (aLr (hk:=hk) (K:=X.K) (ks:=[]) (ds:=[]) fp bV ⟨rfl,bP _,hm,cZ,[],[], #[],0,.nil,.nil,⟨rfl,rfl,rfl⟩,rfl,rfl,cZ⟩) (by simp) λa ha=> ?_,Same.refl _,hE q⟩;rw[aE.mp ha];exact no
theorem qG(i:Nat){x:Str}{p p2:Pos}(hu:X.A.units+2<AO)(hs:sd[i]? =some (oG hk X.K l ks ds))(hx:PE X (.Name x p) (jO i))(h:PEd X sd e (.val d))(hb:PEd X sd b (.val<|hk.dat k))(hnk:k∉ks)(hl:ds.length<=10000)(hE:E.nx (sd.set i (oG hk X.K l (ks++[k])<|ds++[d])))
  (hsw:AX e (some<|.Subscript (.Name x p) b p2) pos.line X.env=pure false:=by rfl):PSd1 X sd (.Assign [.Subscript (.Name x p) b p2] e pos) E:=.mk λσ F H S pins s I=>by
 refine wpAny_Assign_Subscript (thn (h σ F H S pins s I) λr s1 ⟨v,H1,I1,rv,F1,S1,sF1,q1⟩=> ?_) hsw;obtain⟨h1,_⟩:=wX S1 hs;refine thn (hx pins s1 σ H1 (λv H2=>v=.ref l/\H2=H1) I1 ⟨.ref l,h1,rfl,rfl⟩) λu s2 ⟨y,H2,I2,ry,e1,e2⟩=> ?_
 subst e1 e2;obtain rfl:u=Value.ref l:=ry;refine thn (hb σ F1 H2 S1 pins s2 I2) λiv s3 ⟨y,H3,I3,ry,F3,S3,sF3,q3⟩=> ?_
 obtain⟨g1,g2,o,g3,t⟩:=wX S3 hs;obtain⟨ad,rfl,ha⟩:=hk.key q3;obtain rfl:iv=Value.ref ad:=ry;obtain⟨vs,xs,r1,kg,dd,hz,hin⟩:=t.dict I3.hok S3.sub g3;obtain⟨t1,t2,t3,t4,_⟩:=t;refine wpAny_setItem_heap (hsz:=hz) (hk.room hu) (hk.ok I3.hok<|hk.mono S3.sub ha) dd λh' dd' hsm=> ?_
 obtain⟨q,es',ep',hq,u2,u3,u4,_,u5⟩:=dd';have I4:=nJ (t':=s3.toks+hk.kind.draws k) I3 (ob:=exO l q) (by rw[g3];exact True.intro) hsm ⟨q,hq⟩<|vK hq;have lz:ks.length=vs.length:=by rw[t1,r1.len]
 have kg':=kg.new (mF hnk) ha rv;rw[<-sW lz] at kg'
 have t':TG hk X.K F3 l q (ks++[k]) (ds++[d]):=⟨by rw [aN,aN,t1]; rfl,by
  rw[aN,t1];have:=fI hl;show ds.length+1<=AL
  omega,t3,bE.mpr ⟨t4,by simp,λa ha b hb e=>hnk (by rw[<-aE.mp hb,<-e];exact ha)⟩,vs++[v],_,es',ep',r1.app (.one (Rep.mono sF3 q1)),kg',u2,u3,u4,u5⟩
 refine⟨σ,_,I4,_,F3,S3.reT (z':=oG hk X.K l (ks++[k])<|ds++[d]) hs g1 (λb ob hb q=> ?_) (mG S3.smp l) (aLr g2 bV t') (show[l].Nodup by simp) λa ha=>.inl ha,sF1.trans sF3,hE⟩;rw[bI (show b≠l from λz=>hb<|z▸bL l)];exact q
theorem aAL(i:Nat){sts:List BK}(hs:sd[i]? =some (oG hk X.K l ks ds))(h:PSd X (sd.set i (.val<|gD hk X.K ks ds)) sts E):PSd X sd sts E:=.mk λσ F H S=>by
 obtain⟨h1,h2,o,h3,t⟩:=wX S hs;have S0:=S.le<|gE sd i;have no:l∉cA (sd.set i .un):=λhb=>gX S.nd hs (show l∈[l] from bL l) hb
 obtain⟨S1,s1⟩:=S0.inN (l:=l) (ls:=[]) (λa ha=>by rw[aE.mp ha];exact h2) λa ha=>by rw[aE.mp ha];exact no
 have f1:(inF F H [l]) l=some (exO l o):=by rw[aCD aG];exact h3
 have S2:=S1.set (d:=gD hk X.K ks ds) (v:=.ref l) i<|gD_rep.mpr ⟨l,o,rfl,f1,t.mono s1⟩;rw[iS,kE h1] at S2;exact aCF s1<|h σ _ H S2
structure PDc(X:Cx)(sd:List Slot)(e:Expr){κ:Type}[DecidableEq κ](hk:HK X.prog X.w κ)(ks:List κ)(ds:List D):Prop where
 get:∀ (σ:St) (F H:Hp),StF X.K X.B₀ F H σ sd->wE X e σ H λv H1=>∃F1 l,StF X.K X.B₀ F1 H1 σ sd/\Same F F1/\v=.ref l/\∀F2 H2,StF X.K X.B₀ F2 H2 σ sd->Same F1 F2->∃o,H2 l=some (exO l o)/\TG hk X.K F2 l o ks ds
theorem uF(i:Nat){x:Str}{p:Pos}(hs:sd[i]? =some (oG hk X.K l ks ds))(hx:PE X (.Name x p) (jO i)):PDc X sd (.Name x p) hk ks ds:=⟨fun σ F H S=>hx.to (by
 obtain⟨h1,_⟩:=wX S hs
 exact⟨.ref l,h1,F,l,S,Same.refl _,rfl,λF2 H2 S2 _=>(wX S2 hs).2.2⟩)⟩
theorem rH(h:PEd X sd e (.val (gD hk X.K ks ds))):PDc X sd e hk ks ds:=⟨fun σ F H S=>(h σ F H S).imp fun v H1 ⟨F1,S1,s1,q1⟩=>by
 obtain⟨l,o,rfl,e,t⟩:=gD_rep.mp q1
 exact⟨F1,l,S1,s1,rfl,λF2 H2 S2 s2=>⟨o,S2.sub _ _ (s2 _ _ e),t.mono s2⟩⟩⟩
noncomputable def rIn(hk:HK X.prog X.w κ)(f:Bool->Bool):R2:=λx y H Q=>∃ (F:Hp) (ad l:BG) (o:BJ) (k:κ) (ks:List κ) (ds:List D),x=.ref ad/\y=.ref l/\Same F H/\hk.rel F k ad/\H l=some (exO l o)/\TG hk X.K F l o ks ds/\X.A.units+2<AO/\Q (.bl<|f (decide<|k∈ks)) H
theorem aHI:OpR X (AS .In) (rIn hk id):=by intro pins s σ H x y v u Q I rx ry h;obtain⟨F,ad,l,o,k,ks,ds,rfl,rfl,sF,ha,hl,t,hu,q⟩:=h;obtain rfl:v=Value.ref ad:=rx;obtain rfl:u=Value.ref l:=ry;obtain⟨vs,xs,_,_,dd,_,hin⟩:=t.dict I.hok sF hl;refine wpAny_in_heap (hk.room hu) (hk.ok I.hok<|hk.mono sF ha) t.2.2.1 dd ⟨.bl (decide<|k∈ks),H,I.tok _, ?_,q⟩;show Value.bool _=Value.bool _;rw[hin]
theorem aIu:OpR X (AS .NotIn) (rIn hk (!·)):=by intro pins s σ H x y v u Q I rx ry h;obtain⟨F,ad,l,o,k,ks,ds,rfl,rfl,sF,ha,hl,t,hu,q⟩:=h;obtain rfl:v=Value.ref ad:=rx;obtain rfl:u=Value.ref l:=ry;obtain⟨vs,xs,_,_,dd,_,hin⟩:=t.dict I.hok sF hl;refine wpAny_notIn_heap (hk.room hu) (hk.ok I.hok<|hk.mono sF ha) t.2.2.1 dd ⟨.bl<|!decide (k∈ks),H,I.tok _, ?_,q⟩;show Value.bool _=Value.bool _;rw[hin]
theorem aJG(hu:X.A.units+2<AO)(ha:PEd X sd a (.val<|hk.dat k))(hb:PDc X sd b hk ks ds)(hm:AT .In b=false:=by with_unfolding_all rfl):PTd X sd (.Compare a [.In] [b] pos) (decide<|k∈ks):=.mk λσ F H S=>
 (uG (aHI (hk:=hk)) eY eY hm).to ((ha σ F H S).imp fun v H1 ⟨F1,S1,s1,q1⟩=>(hb.get σ F1 H1 S1).imp fun u H2 ⟨F2,l,S2,s2,eu,g⟩=>by
  obtain⟨ad,rfl,hr⟩:=hk.key q1;obtain⟨o,g1,g2⟩:=g F2 H2 S2<|Same.refl _
  exact⟨F2,ad,l,o,k,ks,ds,rfl,eu,S2.sub,hk.mono s2 hr,g1,g2,hu,_,rfl,rfl,F2,S2,s1.trans s2⟩)
theorem aGh(hu:X.A.units+2<AO)(ha:PEd X sd a (.val<|hk.dat k))(hb:PDc X sd b hk ks ds)(hm:AT .NotIn b=false:=by with_unfolding_all rfl):PTd X sd (.Compare a [.NotIn] [b] pos) (!decide (k∈ks)):=.mk λσ F H S=>
 (uG (aIu (hk:=hk)) eY eY hm).to ((ha σ F H S).imp fun v H1 ⟨F1,S1,s1,q1⟩=>(hb.get σ F1 H1 S1).imp fun u H2 ⟨F2,l,S2,s2,eu,g⟩=>by
  obtain⟨ad,rfl,hr⟩:=hk.key q1;obtain⟨o,g1,g2⟩:=g F2 H2 S2<|Same.refl _
  exact⟨F2,ad,l,o,k,ks,ds,rfl,eu,S2.sub,hk.mono s2 hr,g1,g2,hu,_,rfl,rfl,F2,S2,s1.trans s2⟩)
theorem zK{n:Nat}(hu:X.A.units+2<AO)(ha:PDc X sd a hk ks ds)(hb:PEd X sd b (.val<|hk.dat k))(hkn:ks[n]? =some k)(hd:ds[n]? =some d)(hsl:aOD b):PEd X sd (.Subscript a b pos) (.val d):=.mk λσ F H S pins s I=>by
 refine aIZ PySem.F.slot_dict_getitem.lookup hsl<|thn (ha.get σ F H S pins s I) λu s1 ⟨y,H1,I1,ry,F1,l,S1,s1',ey,g⟩=> ?_;subst ey;obtain rfl:u=Value.ref l:=ry;refine thn (hb σ F1 H1 S1 pins s1 I1) λiv s2 ⟨y,H2,I2,ry,F2,S2,sF,q2⟩=> ?_
 obtain⟨o,g1,t⟩:=g F2 H2 S2 sF;obtain⟨ad,rfl,hr⟩:=hk.key q2;obtain rfl:iv=Value.ref ad:=ry;obtain⟨vs,xs,rl,kg,dd,_,_⟩:=t.dict I2.hok S2.sub g1;obtain⟨v,hv,rv⟩:=rl.get hd;obtain⟨w',hw,rw'⟩:=RelO.some_of (v:=v) (o:=(atKey xs k).map (·.2)) (by rw[<-uM t.2.2.2.1 hkn hv];exact kg.val k);obtain⟨pr,hp,hp2⟩:=eE.mp hw;refine⟨dd.typeIs,wpAny_getItem_heap (hk.room hu) (hk.ok I2.hok<|hk.mono S2.sub hr) dd hp ?_⟩;rw[hp2];exact⟨v,H2,I2.tok _,rw',F2,S2,s1'.trans sF,rv⟩
end
variable {prog:AF}{E:BE->BF->Prop}{d it:BG}{od:BJ}{es:Array DictEntry}{ep:Nat}
theorem qV(g:s.heap.get? d=some od)(c:od.ExactDict):s.TypeIs (.ref d) "dict":=⟨od,g,c.1⟩
theorem aBb{Q:BE->BF->Prop}(sm:(d==AW)=false)(g:s.heap.get? d=some od)(c:od.ExactDict)(e:od.data=.dict es ep)
  (q:Q (.ref s.heap.objs.size) {s with heap:=s.heap.push {cls:=.type "dict_keyiterator",data:=.fields #[.ref d,.int 0 0,.int es.size 0,.int ep 0]}}):AK (AH prog w) A (pyIter<|.ref d) Q E s:=by
 have ty:=qV g c;refine wpAny_pyIter_slot ty F.slot_dict_iter (Al F.slot_dict_iter ty F.entry_dict_iter (AA ?_)<|F.args_dict_iter_1 _);unfold Builtin.Dict.dictSlotNone;refine AA<|Ax ty (AB (a:=Value.ref d)<|AA (m:=Builtin.Dict.showsAll d) ?_);unfold Builtin.Dict.showsAll;rw[sm,if_neg bF];exact AB<|AA (Ak g e<|AA (wpAny_dictEpoch g e<|AA (AV<|AB ⟨_,rfl,"dict_keyiterator",_,⟨_,bK _ rfl,rfl⟩,F.slot_dict_keyiterator_next.lookup,q⟩)))
theorem yA{Q:Option BE->BF->Prop}(ki:s.heap.IsKeyIter it d i es.size ep)(g:s.heap.get? d=some od)(e:od.data=.dict es ep)(hi:i<es.size)
  (q:∀h',h'.IsKeyIter it d (i+1) es.size ep->Heap.SameBut it s.heap h'->Q (some es[i].key) {s with heap:=h'}):AK (AH prog w) A (pyNext<|.ref it) Q E s:=by
 have ty:=ki.typeIs;obtain⟨o,g1,c1,f1⟩:=ki;unfold pyNext;refine AA (wpAny_attempt<|As (name:=Str.ofString "__next__") ty F.slot_dict_keyiterator_next (Al F.slot_dict_keyiterator_next ty F.entry_dict_keyiterator_next (AA<|AB (AA<|AA ?_))<|F.args_dict_keyiterator_next_1 _));refine AA (Aj ty<|AB (AA<|wpAny_fieldsOf g1 f1 ?_));rw[if_neg<|by decide];show AK _ _ (ite ((Value.ref d==Value.none)=true) _ _) _ _ _;rw[if_neg (c:=(Value.ref d==Value.none)=true) λz=>by cases z];refine AA<|AB (AA<|Ak g e ?_);rw[if_neg<|by simp];refine AA<|AB (AA<|wpAny_dictEpoch g e ?_);rw[if_neg<|by simp];refine AB ?_;have ix:(if(i:Int)<0 then none else es[(i:Int).toNat]?)=some es[i]:=by rw[if_neg<|by omega,dX,yQ hi]
 simp only[ix]
 have up:(s.heap.update it (Obj.mapFields (·.setIfInBounds 1 (rawInt<|(i:Int)+1)))).IsKeyIter it d (i+1) es.size ep:=
  ⟨_,gC _ g1 (Obj.isFreed_of_fields<|Obj.data_mapFields f1 _),(Obj.cls_mapFields ..).trans c1,by rw[Obj.data_mapFields f1];simp[rawInt]⟩
 refine AA<|AA (Aj ty<|AB (AA<|wpAny_isOneOf_keyiter ty (AA<|wpAny_setField g1 f1 (show(0:Nat)+1<4 by decide) (AA<|Ah ?_))));refine AA<|wpAny_isOneOf_keyiter up.typeIs ?_;exact AB<|AB ⟨_,rfl,AB (q _ up<|Heap.SameBut.update ..)⟩
theorem aGo{Q:Option BE->BF->Prop}{hp:BI}(hh:A.handled=none)(sb:Heap.ExtBut it s.heap hp)(q:∀h',Heap.ExtBut it s.heap h'->Q none {s with heap:=h'}):
  AK (AH prog w) A.in1 (newExc (.type "StopIteration") []>>=fun x=>(raiseNew x:Sem Fin)) (fun fin s'=>∃v,fin=Fin.done (Flow.ret v)∧AK (AH prog w) A (pure (some v)) Q E s') (fun e s'=>AK (AH prog w) A (do
   let b <-isInstance e (Value.type "StopIteration")
   if b=true then pure none else throw e) Q E s') {s with heap:=hp}:=by
 refine AA ?_;simp only[newExc,newTuple];refine AA (AV (AA (m:=firstArgMember _ _)<|wpAny_of_eq (a:=Value.none) (by first|rfl|(simp only[firstArgMember];rfl)) (AV ?_<|by size_fits))<|by size_fits);simp only[raiseNew];refine AA<|wpAny_handled ?_;rw[show A.in1.handled=none from hh];refine AA (AB<|wpAny_throw ?_);refine AA<|wpAny_isInstance (T:="StopIteration") (b:=true) ⟨_,bK _ rfl,rfl⟩ isSubtype_stop ?_;exact AB (q _<|(sb.push _).push _)
theorem aBa{Q:Option BE->BF->Prop}(hh:A.handled=none)(ki:s.heap.IsKeyIter it d i es.size ep)(g:s.heap.get? d=some od)(e:od.data=.dict es ep)(hi:es.size<=i)
  (q:∀h',Heap.ExtBut it s.heap h'->Q none {s with heap:=h'}):AK (AH prog w) A (pyNext<|.ref it) Q E s:=by
 have ty:=ki.typeIs;obtain⟨o,g1,c1,f1⟩:=ki;unfold pyNext;refine AA (wpAny_attempt<|As (name:=Str.ofString "__next__") ty F.slot_dict_keyiterator_next (Al F.slot_dict_keyiterator_next ty F.entry_dict_keyiterator_next (AA<|AB (AA<|AA ?_))<|F.args_dict_keyiterator_next_1 _));refine AA (Aj ty<|AB (AA<|wpAny_fieldsOf g1 f1 ?_));rw[if_neg<|by decide];show AK _ _ (ite ((Value.ref d==Value.none)=true) _ _) _ _ _;rw[if_neg (c:=(Value.ref d==Value.none)=true) λz=>by cases z];refine AA<|AB (AA<|Ak g e ?_);rw[if_neg<|by simp];refine AA<|AB (AA<|wpAny_dictEpoch g e ?_);rw[if_neg<|by simp];refine AB ?_;have ix:(if(i:Int)<0 then none else es[(i:Int).toNat]?)=none:=by rw[if_neg<|by omega,dX,aBv hi]
 simp only[ix];refine AA<|AA (Aj ty<|AB (AA<|wpAny_setField g1 f1 (show(0:Nat)<4 by decide) ?_));exact aGo hh (Heap.SameBut.update ..).extBut q
section
variable {P:AF}{w:AM}{κ:Type}[DecidableEq κ]{hk:HK P w κ}{K:aB}{F:Hp}{l:BG}{o:BJ}{ks:List κ}{ds:List D}
theorem Paired.at{α β:Type}{R:α->β->Prop}{as:List α}{bs:List β}(p:Paired R as bs):∀ {n:Nat}{a:α},as[n]? =some a->∃b,bs[n]? =some b/\R a b:=by
 induction p with
 |nil=>intro n a h;simp at h
 |@cons x y xs ys r t ih=>
  intro n a h;cases n with
  |zero=>
   have:x=a:=by simpa using h
   subst this;exact⟨y,rfl,r⟩
  |succ n=>obtain⟨b,h1,h2⟩:=ih (by simpa using h);exact⟨b,by simpa using h1,h2⟩
theorem TG.ents(t:TG hk K F l o ks ds):∃ (es:Array DictEntry) (ep:Nat) (vs:List V),o.ExactDict/\o.data=.dict es ep/\es.size=ks.length/\RepL K F ds vs/\∀ (n:Nat) (k:κ),ks[n]? =some k->∃b v u,vs[n]? =some v/\es[n]? =some u/\u.key=.ref b/\RelV v u.val/\hk.rel F k b:=by
 obtain⟨h1,h2,h3,h4,vs,xs,es,ep,r,g,q1,q2,q3,q4⟩:=t;have zl:(ks.zip vs).length=ks.length:=by rw[jH,r.len,<-h1,oR]
 refine⟨es,ep,vs,q1,q2, ?_,r,λn k hn=> ?_⟩
 ·have:=congrArg pQ q3;rw[bZ,aA,<-Paired.length g,zl] at this;exact this
 ·have nl:n<ks.length:=(aD.mp hn).1;have nv:n<vs.length:=by rw[r.len,<-h1];exact nl
  have hz:(ks.zip vs)[n]? =some (k,vs[n]):=lX.mpr ⟨hn,by simp[nv]⟩;obtain⟨b,hb,e1,e2,e3⟩:=Paired.at g hz;refine⟨b.2.1,vs[n],entryOfKey hk.kind b,by simp[nv], ?_,rfl,e3,e2⟩;rw[<-dG,q3,aS,hb];rfl
end
noncomputable def ItG(a:BG)(o:BJ)(es:Array DictEntry):It where
 go:=λi H=>H a=some (exO a o)/\i<es.size
 yld:=λi H x H'=>H'=H/\∃u b,es[i]? =some u/\u.key=.ref b/\x=.ref b
 stop:=λi H=>H a=some (exO a o)/\es.size<=i
theorem aBO{a:BG}{o:BJ}(hd:o.data=.dict es ep)(hr:∀ (i:Nat) (h:i<es.size),∃b,es[i].key=.ref b)(it:BG):aGE P w K tg (ItG a o es) [it] it (λi h=>h.IsKeyIter it a i es.size ep) where
 mem:=by simp
 obj:=λi h st b hb=>by
  have e:b=it:=by simpa using hb
  subst e;obtain⟨o,e,c,d⟩:=st;exact⟨o,e,λv z=>by rw[d] at z;cases z⟩
 keep:=λi h h' st k=>by obtain⟨o,e,c,d⟩:=st;exact⟨o,k it (by simp) o e,c,d⟩
 item:=by
  intro X hP hw hK hc i pins s σ H E I hf st hg;subst hP hw hK;obtain⟨hq,hx⟩:=hg;obtain⟨b,hb⟩:=hr i hx;have g:s.heap.get? a=some o:=(I.hok a _ hq).1;obtain⟨f0,f1,f2,f3,f4,f5⟩:=hf it (by simp);refine yA st g hd hx λh' st' sb=> ?_
  have I1:Inv X pins σ H {s with heap:=h'}:=I.turned (t':=s.toks) (λb o hb e=>(sb.2 b hb).trans e) f0 f1 f3 f4 f5;obtain⟨o',e,c,d⟩:=id st';exact⟨_,rfl,aFq (s:={s with heap:=h'}) e c d (by decide) ⟨.ref b,H,I1,hb,⟨rfl,es[i],b,by simp[hx],hb,rfl⟩,st',λb hb=>(hf b hb).1⟩⟩
 done:=by intro X hP hw hK hc i pins s σ H E I hf st hg;subst hP hw hK;obtain⟨hq,hx⟩:=hg;have g:s.heap.get? a=some o:=(I.hok a _ hq).1;obtain⟨f0,f1,f2,f3,f4,f5⟩:=hf it (by simp);exact aBa (I.ok.hd hc) st g hd hx λh' eb=>⟨rfl,I.turned (t':=s.toks) (λb o hb e=>eb b o hb e) f0 f1 f3 f4 f5⟩
 self:=λ_ _ _ _ _ st h=>wpAny_pyIter_keyiter st h
section
variable {X:Cx}{sd:List Slot}{e tg iter:Expr}{pos:Pos}{d:D}{ds:List D}{κ:Type}[DecidableEq κ]{hk:HK X.prog X.w κ}{ks:List κ}
theorem aEe(h:PEd X sd iter (.val<|gD hk X.K ks ds)):PId X sd PT0 tg iter (ks.map hk.dat):=.mk λσ F H S pins s I=>by
 refine thn (h σ F H S pins s I) λv s1 ⟨x,H1,I1,r1,F1,S1,s1',q1⟩=> ?_
 obtain⟨a,o,rfl,ha,t⟩:=gD_rep.mp q1;cases r1;obtain⟨es,ep,vs,c,e,ez,r,hn⟩:=t.ents;have g:s1.heap.get? a=some o:=(I1.hok a _<|S1.sub _ _ ha).1
 have hr:∀ (i:Nat) (h:i<es.size),∃b,es[i].key=.ref b:=λi hi=>by
  have il:i<ks.length:=by rw[<-ez];exact hi
  obtain⟨b,v,u,_,e2,e3,_⟩:=hn i ks[i] (by simp[il]);rw[yQ hi] at e2;cases e2;exact⟨b,e3⟩
 refine aBb t.2.2.1 g c e ?_;refine⟨s1.heap.objs.size,[s1.heap.objs.size],_,ItG a o es,H1,rfl,I1.kept (t':=s1.toks) λb o e=>aJ _ e,aBO e hr _,⟨_,bK _ rfl,rfl,rfl⟩,λb hb=> ?_,F1,S1,s1',λF' H' sF sH sm _ i=> ?_⟩
 ·have e:b=s1.heap.objs.size:=by simpa using hb
  subst e;exact I1.fpOk (aP _) (I1.hok.fresh<|aP _)
 ·have ha':=sH _ _<|sF _ _ ha;refine⟨λhi=>⟨ha',by rw[ez];rw[aA] at hi;exact hi⟩,λhi=>⟨ha',by rw[ez];rw[aA] at hi;exact hi⟩,λx H2 dd hdd y=> ?_⟩;obtain⟨rfl,u,b,e1,e2,rfl⟩:=y;rw[aS] at hdd;obtain⟨k,hk1,rfl⟩:=eE.mp hdd;obtain⟨b',v,u',_,e4,e5,_,rl⟩:=hn i k hk1;rw[e1] at e4;cases e4;rw[e2] at e5;cases e5;exact⟨F',Same.refl _,hk.back<|hk.mono sF rl,λ_ _ _ S=>S⟩
end
theorem aBU(sm:(d==AW)=false):MeetsIn prog w (Builtin.«dict.__len__» ⟨[.ref d],[]⟩) (λ_ R s=>∃ (od:BJ) (es:Array DictEntry) (ep:Nat),s.heap.get? d=some od/\od.ExactDict/\od.data=.dict es ep/\R (.ok (.ret<|.int es.size s.toks)) {s with toks:=s.toks+1}):=
 .of_wp λA R s ⟨od,es,ep,g,c,e,q⟩=>by refine AA (m:=Builtin.Dict.dictSlotNone "__len__" ⟨[.ref d],[]⟩) ?_;unfold Builtin.Dict.dictSlotNone;refine AA<|Ax (qV g c) (AB (a:=Value.ref d)<|AA (AB<|AA (m:=dictSize d) ?_));unfold dictSize;exact AA (Ak g e<|AB (AA<|wpAny_pendingCount_other sm (wpAny_ret_mkInt<|by rw[show((es.size:Nat):Int)+((0:Nat):Int)=(es.size:Int) from Int.add_zero _];exact q)))
theorem aEK{Q:BE->BF->Prop}(sm:(d==AW)=false)(g:s.heap.get? d=some od)(c:od.ExactDict)(e:od.data=.dict es ep)(fit:es.size<=AL)(q:∀t t2,Q (.int es.size t) {s with toks:=t2}):AK (AH prog w) A (call (.builtin "len") [.ref d]) Q E s:=by
 have lim:AL=16777216:=Ap;have ty:=qV g c;refine Calls.call_function_entry kind_len plain_len entry_len (args_len1 _) ?_;refine AA (m:=oneArg "len" _) (AB<|AA (m:=callSpecial? (.ref d)<|Str.ofString "__len__") (As (name:=Str.ofString "__len__") ty F.slot_dict_len<|call_meetsIn F.slot_dict_len ty F.entry_dict_len (F.args_dict_len_1 _) (aBU sm) ⟨od,es,ep,g,c,e, ?_⟩));refine AA (Ah<|AB (AA<|wpAny_letGo ?_));refine BD (λz=>by omega) λ_=>BD (λz=>by omega) λ_=> ?_
 exact AA (wpAny_mkInt<|AB ⟨_,rfl,q _ _⟩)
section
variable {X:Cx}{sd:List Slot}{e:Expr}{pos:Pos}{d:D}{ds:List D}{κ:Type}[DecidableEq κ]{hk:HK X.prog X.w κ}{ks:List κ}
theorem xV:kG X (.builtin "len") (λxs H Q=>∃ (l:BG) (o:BJ) (es:Array DictEntry) (ep:Nat),xs=[.ref l]/\H l=some (exO l o)/\o.ExactDict/\o.data=.dict es ep/\(l==AW)=false/\es.size<=AL/\Q (.int es.size) H):=by intro pins s σ H xs us Q I r h;obtain⟨l,o,es,ep,rfl,hl,c,e,sm,fit,q⟩:=h;obtain⟨u,rfl,rx⟩:=oE r;cases(show u=Value.ref l from rx);exact aEK sm (I.hok l _ hl).1 c e fit λt t2=>⟨.int es.size,H,I.tok _,⟨_,rfl⟩,q⟩
theorem aJc{p:Pos}(hg:Gl X "len")(hm:X.mg "len"=none)(ha:PDc X sd e hk ks ds)(hst:AC [e] X.env=(false,eval e X.env)::AC [] X.env:=by rfl):PEd X sd (.Call (.Name "len" p) [e] [] pos) (.val<|.int ks.length):=.mk λσ F H S=>
 (kC xV hg hm PySem.boot_len (dP eY pa_nil hst) (by decide) (by decide) hst rfl).to ((ha.get σ F H S).imp fun v H1 ⟨F1,l,S1,s1,ev,g⟩=>by
  obtain⟨o,g1,t⟩:=g F1 H1 S1<|Same.refl _;obtain⟨es,ep,vs,c,e,ez,_⟩:=t.ents;refine⟨l,o,es,ep,by rw[ev],g1,c,e,t.2.2.1,by rw[ez];exact t.2.1,F1,S1,s1, ?_⟩;simp only[ResOk,Rep]
  rw[ez])
end
theorem uR{κ:Type}[DecidableEq κ]:∀ {ks:List κ}{xs:List V}{k:κ}{z:V},fE (ks.zip xs) k=some z->∃n:Nat,ks[n]? =some k/\xs[n]? =some z
 |[],_,_,_,h=>by cases h
 |_::_,[],_,_,h=>by cases h
 |j::js,y::ys,k,z,h=>by
  rw[dM] at h
  by_cases e:j=k
  ·rw[gH (p:=(j,y)) e] at h;cases h;exact⟨0,by simp[e],rfl⟩
  ·rw[fF (p:=(j,y)) e] at h;obtain⟨n,h1,h2⟩:=uR h;exact⟨n+1,by simpa using h1,by simpa using h2⟩
structure LyOk(K:aB)(F H:Hp)(p:Int)(L:Int->List D)(kvs:List (Key×V))(ls:List BG):Prop where
 live:∃ (lk:List Int) (dss:List (List D)),lk.Nodup/\lk.length=ls.length/\InD K F H ls dss/\(∀k,p<k->fE kvs (.inl k)=fE (lk.zip<|ls.map V.ref) k)/\(∀ (n:Nat) (k:Int),lk[n]? =some k->p<k/\dss[n]? =some (L k))/\∀k,p<k->k∉lk->L k=[]
 cur:(fE kvs (.inl p)=none/\L p=[])\/∃v,fE kvs (.inl p)=some v/\Rep K F (.lst<|L p) v
def GLy(K:aB)(l:BG)(p:Int)(L:Int->List D)(kvs:List (Key×V))(ls:List BG):V->Hp->Hp->Prop:=λv F H=>v=.ref l/\H l=some (.dK kvs)/\LyOk K F H p L kvs ls
noncomputable def oLy(K:aB)(l:BG)(p:Int)(L:Int->List D)(kvs:List (Key×V))(ls:List BG):Slot:=.ox (l::ls)<|GLy K l p L kvs ls
variable {p:Int}{L:Int->List D}{kvs:List (Key×V)}
theorem LyOk.mono(o:LyOk K F H p L kvs ls)(s:Same F F')(k:∀a∈ls,∀ob,H a=some ob->H' a=some ob):LyOk K F' H' p L kvs ls:=by
 obtain⟨⟨lk,dss,h1,h2,h3,h4,h5,h6⟩,h7⟩:=o;refine⟨⟨lk,dss,h1,h2,h3.mono2 s k,h4,h5,h6⟩, ?_⟩
 rcases h7 with h|⟨v,q1,q2⟩
 ·exact .inl h
 ·exact .inr ⟨v,q1,q2.mono s⟩
theorem lP(S:StF K H₀ F H σ sd)(hs:sd[i]? =some (oLy K l p L kvs ls)):σ[i]? =some (some<|.ref l)/\(∀a∈l::ls,F a=none)/\(H l=some (.dK kvs)/\LyOk K F H p L kvs ls)/\(l::ls).Nodup:=by
 obtain⟨o,h1,v,h2,h3,h4⟩:=S.slots.get hs;obtain⟨e,g⟩:=h4 F H (Same.refl _) λ_ _ _ q=>q
 subst e h2;exact⟨h1,λa ha=>(h3 a ha).1,g,wV S.nd hs⟩
theorem sS(hF:∀a∈l::ls,F a=none)(h1:H l=some (.dK kvs))(o:LyOk K F H p L kvs ls):gQ K F H (oLy K l p L kvs ls) (some<|.ref l):=by
 refine⟨.ref l,rfl,λa ha=>⟨hF a ha, ?_⟩,λF' H' s k=>⟨rfl,k l aG _ h1,o.mono s λa ha ob e=>k a (aF _ ha) ob e⟩⟩
 rcases aU.mp ha with rfl|ha
 ·exact⟨_,h1,trivial⟩
 ·obtain⟨⟨lk,dss,_,_,h3,_⟩,_⟩:=o;obtain⟨t,ht⟩:=cX ha;obtain⟨_,xs,_,q,_⟩:=h3.get ht;exact⟨_,q,trivial⟩
theorem InD.erase:∀ {as:List BG}{dss:List (List D)} (n:Nat),InD K F H as dss->InD K F H (as.eraseIdx n) (dss.eraseIdx n)
 |[],[],n,h=>by simp;exact h
 |[],_::_,_,h=>h.elim
 |_::_,[],_,h=>h.elim
 |a::as,ds::dss,0,h=>h.2
 |a::as,ds::dss,n+1,h=>⟨h.1,InD.erase n h.2⟩
theorem xY:∀ {lk:List Int}{vs:List V}{n:Nat}{q k:Int},lk[n]? =some q->k≠q->fE ((lk.eraseIdx n).zip<|vs.eraseIdx n) k=fE (lk.zip vs) k
 |[],_,n,_,_,h,_=>by simp at h
 |j::js,[],n,q,k,h,ne=>by cases n<;>simp[List.eraseIdx]
 |j::js,y::ys,0,q,k,h,ne=>by
  have:j=q:=by simpa using h
  subst this;rw[dM,fF (p:=(j,y)) λe=>ne e.symm];rfl
 |j::js,y::ys,n+1,q,k,h,ne=>by
  have ih:=xY (vs:=ys) (show js[n]? =some q by simpa using h) ne;show fE ((j,y)::(js.eraseIdx n).zip (ys.eraseIdx n)) k=fE ((j,y)::js.zip ys) k
  by_cases e:j=k
  ·rw[gH (p:=(j,y)) e,gH (p:=(j,y)) e]
  ·rw[fF (p:=(j,y)) e,fF (p:=(j,y)) e,ih]
theorem sM{α β:Type}(f:α->β):∀ (l:List α) (n:Nat),(l.map f).eraseIdx n=(l.eraseIdx n).map f
 |[],_=>by simp
 |_::_,0=>rfl
 |a::l,n+1=>by show f a::(l.map f).eraseIdx n=f a::(l.eraseIdx n).map f;rw[sM f l n]
variable {d:D}{E:iJ}
theorem aDY(p:Int)(i:Nat){p1 p2:Pos}(hN:X.N.Nodup)(hi:X.N[i]? =some x)(hx:Loc X.env.scope x)(hE:∀l,E.nx (sd.set i<|oLy X.K l p (λ_=>[]) [] []))(hs:AX (.Dict [] [] p2) (some<|.Name x p1) pos.line X.env=pure false:=by rfl)
  (hf:X.fn x=true\/X.env.scope.names.lookup x=some .local:=by first|exact .inl rfl|exact .inr rfl|assumption):PSd1 X sd (.Assign [.Name x p1] (.Dict [] [] p2) pos) E:=.mk λσ F H S=>
 (nY hN hi hx aGi hs hf).to λq hq=>by
  have fp:F q=none:=S.sub.free hq
  have no:q∉cA sd:=λhl=>by obtain⟨_,ob,h,_⟩:=S.slots.owns hl;rw[hq] at h;cases h
  have S1:StF X.K X.B₀ F (upd H q<|.dK []) σ sd:=by
   refine⟨S.base,λb u e=> ?_,qM S.smp q trivial,S.slots.mono (Same.refl _) λl hl=> ?_,S.nd⟩
   ·rw[bI<|cC e fp];exact S.sub _ _ e
   ·obtain⟨n,ys,y,_⟩:=S.slots.owns hl;have hne:l≠q:=cC y hq;exact⟨n,λys e=>by rw[bI hne];exact e⟩
  refine⟨_,F,S1.setT i (sS (K:=X.K) (ls:=[]) (kvs:=[]) (λa ha=>by rw[aE.mp ha];exact fp) bV ⟨⟨[],[],cZ,rfl,trivial,λ_ _=>rfl,λn k e=>by simp at e,λ_ _ _=>rfl⟩,.inl ⟨rfl,rfl⟩⟩) (by simp) λa ha=> ?_,Same.refl _,hE q⟩;rw[aE.mp ha];exact no
theorem aIv(i:Nat){sts:List BK}(hs:sd[i]? =some (oLy X.K l p L kvs ls))(h:∀ls',PSd X (sd.set i<|oLy X.K l (p+1) L kvs ls') sts E):PSd X sd sts E:=.mk λσ F H S=>by
 obtain⟨h1,h2,⟨g1,⟨lk,dss,o1,o2,o3,o4,o5,o6⟩,_⟩,nd⟩:=lP S hs
 by_cases q:p+1∈lk
 ·obtain⟨n,hn⟩:=cX q;have nl:n<ls.length:=by rw[<-o2];exact(aD.mp hn).1
  have ha:ls[n]? =some ls[n]:=by simp[nl]
  generalize ls[n]=a at ha;have am:=aK ha;obtain⟨ds,xs,d1,d2,d3⟩:=o3.get ha;rw[(o5 n _ hn).2] at d1;cases d1;have S0:=S.le<|gE sd i;have no:∀b∈l::ls,b∉cA (sd.set i .un):=λb hb z=>gX S.nd hs hb z
  obtain⟨S1,s1⟩:=S0.inN (l:=a) (ls:=[]) (λb hb=>by rw[aE.mp hb];exact h2 a<|aF _ am) λb hb=>by rw[aE.mp hb];exact no a<|aF _ am
  have fa:(inF F H [a]) a=some (.lst xs):=by rw[aCD aG];exact d2
  obtain⟨nd1,nd2⟩:=bH.mp nd
  have ne:∀b∈ls.eraseIdx n,b≠a:=λb hb z=>by obtain⟨m,mn,hm⟩:=uQ.mp hb;subst z;obtain⟨m1,e1⟩:=aD.mp hm;obtain⟨n1,e2⟩:=aD.mp ha;exact mn ((dR nd2).mp<|e1.trans e2.symm)
  have sub:∀b∈l::ls.eraseIdx n,b∈l::ls:=λb hb=>(aU.mp hb).elim (λz=>z▸aG) λz=>aF _<|(eZ ls n).subset z
  have ok:LyOk X.K (inF F H [a]) H (p+1) L kvs (ls.eraseIdx n):=by
   refine⟨⟨lk.eraseIdx n,dss.eraseIdx n,o1.sublist<|eZ _ _, ?_,(o3.erase n).mono2 s1 λ_ _ _ e=>e,λk hk=> ?_,λm k hm=> ?_,λk hk hm=> ?_⟩,.inr ⟨.ref a, ?_, ?_⟩⟩
   ·rw[kQ,kQ,o2]
   ·rw[o4 k<|by omega,<-sM,xY hn<|by omega]
   ·have mk:∃j,j≠n/\lk[j]? =some k/\(dss.eraseIdx n)[m]? =dss[j]? :=by
     rw[List.getElem?_eraseIdx] at hm ⊢
     by_cases z:m<n
     ·rw[if_pos z] at hm ⊢;exact⟨m,by omega,hm,rfl⟩
     ·rw[if_neg z] at hm ⊢;exact⟨m+1,by omega,hm,rfl⟩
    obtain⟨j,jn,e1,e2⟩:=mk;obtain⟨e3,e4⟩:=o5 j k e1;refine⟨?_,e2.trans e4⟩
    have:k≠p+1:=λz=>by subst z;obtain⟨j1,f1⟩:=aD.mp e1;obtain⟨n1,f2⟩:=aD.mp hn;exact jn ((dR o1).mp<|f1.trans f2.symm)
    omega
   ·refine o6 k (by omega) λz=>hm ?_
    obtain⟨j,hj⟩:=cX z;refine uQ.mpr ⟨j,λw=> ?_,hj⟩;subst w;rw[hn] at hj;cases hj;omega
   ·rw[o4 (p+1)<|by omega];exact uM o1 hn (by rw[aS,ha];rfl)
   ·simp only[Rep];exact⟨a,xs,rfl,fa,d3.mono s1⟩
  have S2:=S1.setT (v:= .ref l) i (sS (K:=X.K) (fun b hb=>by
   rw[aAD λz=> ?_]
   ·exact h2 b<|sub b hb
   ·rcases aU.mp hb with rfl|hb
    ·exact nd1<|(aE.mp z)▸am
    ·exact ne b hb (aE.mp z)) g1 ok) (bH.mpr ⟨λz=>nd1 ((eZ ls n).subset z),nd2.sublist (eZ _ _)⟩) λb hb=>no b (sub b hb)
  rw[iS,kE h1] at S2;exact aCF s1<|h _ σ _ H S2
 ·have ok:LyOk X.K F H (p+1) L kvs ls:=by
   refine⟨⟨lk,dss,o1,o2,o3,λk hk=>o4 k<|by omega,λn k hn=>⟨?_,(o5 n k hn).2⟩,λk hk=>o6 k<|by omega⟩,.inl ⟨?_,o6 _ (by omega) q⟩⟩
   ·have:=(o5 n k hn).1;have:k≠p+1:=λz=>q (z▸aK hn)
    omega
   ·rw[o4 _<|by omega];exact mF q
  have S2:=S.reT (z':=oLy X.K l (p+1) L kvs ls) hs h1 (λb ob _ q=>q) S.smp (sS h2 g1 ok) nd λa ha=>.inl ha
  exact h _ σ F H S2
theorem aFs(i:Nat){p1 ap cp p5:Pos}(hu:X.A.units+1<AO)(hs:sd[i]? =some (oLy X.K l p L kvs ls))(hx:PE X (.Name x p1) (jO i))(hb:PEd X sd b (.val<|.int p))(m:M2 X (.Name x p1) "get" ap b (.List [] p5) cp):PEd X sd (.Call (.Attribute (.Name x p1) "get" ap) [b, .List [] p5] [] cp) (.val (.lst<|L p)):=.mk λσ F H S=>
 (aGt hu hx eY eY m).to (by
  obtain⟨h1,_,⟨g1,_⟩,_⟩:=lP S hs;refine⟨.ref l,h1,l,rfl,.inl ⟨kvs,.inl g1⟩,(hb σ F H S).imp λv1 H1 ⟨F1,S1,s1,q1⟩=>((PEd.val (oM (ds:=[]) aO<|bP _):PEd X sd (.List [] p5) (.val<|.lst [])) σ F1 H1 S1).imp λv2 H2 ⟨F2,S2,s2,q2⟩=> ?_⟩;obtain⟨_,_,⟨g1,_,cur⟩,_⟩:=lP S2 hs;simp only[ResOk,Rep] at q1;subst q1;refine⟨fE kvs<|.inl p,.k (k:=.inl p) g1,F2,S2,s1.trans s2, ?_⟩
  rcases cur with⟨e1,e2⟩|⟨v,e1,e2⟩
  ·rw[e1,e2];exact q2
  ·rw[e1]
   exact e2)
noncomputable def lH(L:Int->List D)(k:Int)(ds:List D):Int->List D:=λj=>if j=k then ds else L j
theorem uO(L:Int->List D)(k:Int)(ds:List D):lH L k ds k=ds:=if_pos rfl
theorem oX(L:Int->List D){k j:Int}(ds:List D)(h:j≠k):lH L k ds j=L j:=if_neg h
theorem qB{n:Nat}(h:n<=100000):n<AL:=by have:=Ap;omega
variable {a:BG}
theorem LyOk.new{k:Int}(o:LyOk K F H p L kvs ls)(hk:p<k)(hn:fE kvs (.inl k)=none)(ha:H a=some (.lst [])):LyOk K F H p (lH L k []) (kvs++[(.inl k,.ref a)]) (ls++[a]):=by
 obtain⟨⟨lk,dss,o1,o2,o3,o4,o5,o6⟩,cur⟩:=o
 have nk:k∉lk:=λz=>by have:=sQ (xs:=ls.map V.ref) o1 (by rw[aA,o2]) z;rw[<-o4 k hk,hn] at this;cases this
 have vs:∀j:Int,fE (kvs++[((.inl k:Key),V.ref a)]) (.inl j)=if j=k then some (.ref a) else fE kvs (.inl j):=λj=>by
  rw[mD _ _ _ kvs hn]
  by_cases e:j=k
  ·rw[if_pos e,if_pos<|congrArg Sum.inl e]
  ·rw[if_neg e,if_neg λz=>e<|Sum.inl.inj z]
 have vz:∀j:Int,fE ((lk++[k]).zip<|(ls++[a]).map V.ref) j=if j=k then some (.ref a) else fE (lk.zip<|ls.map V.ref) j:=λj=>by rw[aW,aKu<|by rw[aA,o2]];exact mD _ _ _ _<|mF nk
 refine⟨⟨lk++[k],dss++[[]],bE.mpr ⟨o1,by simp,λx hx y hy e=>nk<|by rw[<-aE.mp hy,<-e];exact hx⟩,by rw[aN,aN,o2];rfl,InD.snoc o3 ha,λj hj=>by rw[vs,vz,o4 j hj],λn j hj=> ?_,λj hj nj=> ?_⟩, ?_⟩
 ·have dl:dss.length=lk.length:=by rw[<-o3.len,o2]
  by_cases z:n<lk.length
  ·rw[cU z] at hj;obtain⟨e1,e2⟩:=o5 n j hj;refine⟨e1, ?_⟩;rw[cU<|by omega,e2,oX L [] (λw=>nk<|by rw[<-w];exact aK hj)]
  ·rw[dH<|by omega] at hj
   have n0:n-lk.length=0:=by have:=(aD.mp hj).1;simp at this;omega
   rw[n0] at hj;cases hj;refine⟨hk, ?_⟩;rw[dH<|by omega,dl,n0,uO];rfl
 ·by_cases e:j=k
  ·rw[e,uO]
  ·rw[oX L [] e];exact o6 j hj λz=>nj<|aZ _ z
 ·have ne:p≠k:=aOX hk;rw[vs,if_neg ne,oX L [] ne];exact cur
theorem LyOk.at{k:Int}{z:V}(o:LyOk K F H p L kvs ls)(hk:p<k)(hz:fE kvs (.inl k)=some z):∃ (n:Nat) (b:BG) (xs:List V),z=.ref b/\ls[n]? =some b/\H b=some (.lst xs)/\RepL K F (L k) xs:=by obtain⟨⟨lk,dss,o1,o2,o3,o4,o5,o6⟩,cur⟩:=o;rw[o4 k hk] at hz;obtain⟨n,e1,e2⟩:=uR hz;rw[aS] at e2;obtain⟨b,e3,rfl⟩:=eE.mp e2;obtain⟨ds,xs,d1,d2,d3⟩:=o3.get e3;rw[(o5 n k e1).2] at d1;cases d1;exact⟨n,b,xs,rfl,e3,d2,d3⟩
theorem LyOk.wr{k:Int}{b:BG}{ys:List V}(o:LyOk K F H p L kvs ls)(nd:ls.Nodup)(hk:p<k)(hz:fE kvs (.inl k)=some (.ref b))(r:RepL K F ds ys):LyOk K F (upd H b<|.lst ys) p (lH L k ds) kvs ls:=by
 obtain⟨⟨lk,dss,o1,o2,o3,o4,o5,o6⟩,cur⟩:=o;have hz':=hz;rw[o4 k hk] at hz';obtain⟨n,e1,e2⟩:=uR hz';rw[aS] at e2;obtain⟨b',e3,e4⟩:=eE.mp e2;cases e4;have nl:n<dss.length:=by rw[<-o3.len];exact(aD.mp e3).1
 refine⟨⟨lk,dss.set n ds,o1,o2,o3.set nd e3 r,o4,λm j hj=> ?_,λj hj nj=> ?_⟩, ?_⟩
 ·obtain⟨f1,f2⟩:=o5 m j hj;refine⟨f1, ?_⟩
  by_cases e:m=n
  ·subst e;rw[e1] at hj;cases hj;rw[fX nl,uO]
  ·have:j≠k:=fun z=>e (by
    subst z;obtain⟨a1,a2⟩:=aD.mp hj;obtain⟨b1,b2⟩:=aD.mp e1
    exact(dR o1).mp (a2.trans b2.symm))
   rw[iT<|Ne.symm e,f2,oX L ds this]
 ·have:j≠k:=λz=>nj (z▸aK e1)
  rw[oX L ds this];exact o6 j hj nj
 ·rw[oX L ds<|aOX hk];exact cur
variable {a:Expr}
theorem aDM(i:Nat){p1 ap1 cp1 p5 ap cp:Pos}{k:Int}(hs:sd[i]? =some (oLy X.K l p L kvs ls))(hx:PE X (.Name x p1) (jO i))(hb:PEd X sd b (.val<|.int k))(h:∀z,PEd X (sd.set i z) e<|.val d)(hpk:p<k)(hc:kvs.length<=100000)(hl:(L k).length<=100000)
  (hE:∀kvs' ls',kvs'.length<=kvs.length+1->E.nx (sd.set i<|oLy X.K l p (lH L k<|L k++[d]) kvs' ls'))
  (hm:PE X (.Call (.Attribute (.Call (.Attribute (.Name x p1) "setdefault" ap1) [b, .List [] p5] [] cp1) "append" ap) [e] [] cp)
   (tBM X.K "list" oY (tBM X.K "dict" rSI (jO i) (lO (wE X b) (lO (wE X (.List [] p5)) vJ))) (lO (wE X e) vJ)):=by exact aCm jG lV lW sG (aCm jF gY uA aLJ (pv _) (dP eY (dP eY pa_nil))) (dP eY pa_nil))
  (hsw:AX (.Call (.Attribute (.Call (.Attribute (.Name x p1) "setdefault" ap1) [b, .List [] p5] [] cp1) "append" ap) [e] [] cp) none pos.line X.env=pure false:=by rfl):
  PSd1 X sd (.Expr (.Call (.Attribute (.Call (.Attribute (.Name x p1) "setdefault" ap1) [b, .List [] p5] [] cp1) "append" ap) [e] [] cp) pos) E:=.mk λσ F H S=>
 (pE hm hsw).to (by
  have il:i<sd.length:=(aD.mp hs).1
  have fin:∀ (F2 H2:Hp) (L2:Int->List D) (kvs2:List (Key×V)) (ls2:List BG) (ad:BG),StF X.K X.B₀ F2 H2 σ (sd.set i<|oLy X.K l p L2 kvs2 ls2)->Same F F2->L2 k=L k->lH L2 k (L k++[d])=lH L k (L k++[d])->kvs2.length<=kvs.length+1->fE kvs2 (.inl k)=some (.ref ad)->
    tyV X.K "list" (.ref ad) H2/\(lO (wE X e) vJ) σ H2 λxs H3=>oY (.ref ad) xs H3 λ_ H4=>(lft X F E).nx σ H4:=λF2 H2 L2 kvs2 ls2 ad S2 s2 eL eU hl2 hv=>by
   have hs2:(sd.set i<|oLy X.K l p L2 kvs2 ls2)[i]? =some (oLy X.K l p L2 kvs2 ls2):=fX il;obtain⟨_,_,⟨_,o⟩,_⟩:=lP S2 hs2;obtain⟨n,b',xs,ez,hn,hb',rb⟩:=o.at hpk hv;cases ez;refine⟨.inl ⟨rfl,xs,.of hb'⟩,(h _ σ F2 H2 S2).imp λv H3 ⟨F3,S3,s3,q3⟩=> ?_⟩;obtain⟨f1,f2,⟨f3,o'⟩,f5⟩:=lP S3 hs2;obtain⟨n',b2,xs3,ez,hn',u2,u3⟩:=o'.at hpk hv;cases ez;obtain⟨nd1,nd2⟩:=bH.mp f5;have am:=aK hn';have nl:l≠ad:=λz=>nd1<|z▸am
   have o2:=o'.wr nd2 hpk hv (u3.app<|.one q3)
   have W:StF X.K X.B₀ F3 (upd H3 ad (.lst (xs3++[v]))) σ ((sd.set i (oLy X.K l p L2 kvs2 ls2)).set i (oLy X.K l p (lH L2 k (L2 k++[d])) kvs2 ls2)):=S3.reT (z':=oLy X.K l p (lH L2 k (L2 k++[d])) kvs2 ls2) hs2 f1 (fun b ob hb q=>by
    rw[bI (show b≠ad from λz=>hb<|z▸aF _ am)]
    exact q) (qM S3.smp ad trivial) (sS f2 (by rw[bI nl];exact f3) o2) f5 λa ha=>.inl ha
   rw[iS,eL,eU] at W;exact⟨ad,xs3,v,rfl,rfl,u2,by rw[u3.len,eL];exact qB hl,_,F3,W,s2.trans s3,hE kvs2 ls2 hl2⟩
  obtain⟨h1,h2,⟨h3,_⟩,_⟩:=lP S hs;refine⟨.ref l,h1,.inr (.inr<|.inl ⟨rfl,.inl ⟨_,h3⟩⟩),(hb σ F H S).imp λv1 H1 ⟨F1,S1,s1,q1⟩=>((oM (ds:=[]) aO (bP _):PEd X sd (.List [] p5) (.own [])) σ F1 H1 S1).imp λv2 H2 ⟨F2,S2,s2,q2⟩=> ?_⟩;obtain⟨g1,g2,⟨g3,o⟩,g5⟩:=lP S2 hs;simp only[ResOk,Rep] at q1;subst q1;obtain⟨a,xs,rfl,fa,ha2,rl2,na⟩:=q2;have xn:xs=[]:=cQ (by rw[rl2.len];rfl);subst xn;refine⟨l,.inl k,.ref a,kvs,rfl,rfl,g3,qB hc,λz hz=> ?_,λhz=> ?_⟩
  ·obtain⟨n,b',xs,ez,_⟩:=o.at hpk hz;subst ez;have S2':StF X.K X.B₀ F2 H2 σ (sd.set i<|oLy X.K l p L kvs ls):=by rw[xW hs];exact S2
   exact fin F2 H2 L kvs ls b' S2' (s1.trans s2) rfl rfl (iX _) hz
  ·have hne:a∉l::ls:=λz=>na (dI.mpr ⟨_,aK hs,z⟩)
   have hal:a≠l:=λz=>hne<|z▸aG
   have e0:L k=[]:=by
    obtain⟨⟨lk,dss,o1,o2,o3,o4,o5,o6⟩,_⟩:=o;refine o6 k hpk λz=> ?_
    have:=sQ (xs:=ls.map V.ref) o1 (by rw[aA,o2]) z;rw[<-o4 k hpk,hz] at this;cases this
   have S3:StF X.K X.B₀ F2 (upd H2 l (.dK<|kvs++[((Sum.inl k:Key),V.ref a)])) σ (sd.set i (oLy X.K l p (lH L k []) (kvs++[((Sum.inl k:Key),V.ref a)])<|ls++[a])):=by
    refine S2.reT (z':=oLy X.K l p (lH L k []) (kvs++[((Sum.inl k:Key),V.ref a)])<|ls++[a]) hs g1 (λb ob hb q=> ?_) (qM (o:=.dK<|kvs++[((Sum.inl k:Key),V.ref a)]) S2.smp l trivial) (sS (λb hb=> ?_) bV ?_) ?_ λb hb=> ?_
    ·rw[bI (show b≠l from λz=>hb<|z▸aG)];exact q
    ·rcases aU.mp hb with rfl|hb
     ·exact g2 _ aG
     ·rcases aM.mp hb with hb|hb
      ·exact g2 b<|aF _ hb
      ·rw[aE.mp hb];exact fa
    ·refine LyOk.new (o.mono (Same.refl _) λb hb ob q=> ?_) hpk hz ?_
     ·rw[bI (show b≠l from λz=>(bH.mp g5).1<|z▸hb)];exact q
     ·rw[bI hal];exact ha2
    ·show(l::(ls++[a])).Nodup;refine bH.mpr ⟨λz=> ?_,bE.mpr ⟨(bH.mp g5).2,by simp,λx hx y hy e=> ?_⟩⟩
     ·rcases aM.mp z with z|z
      ·exact(bH.mp g5).1 z
      ·exact hal (aE.mp z).symm
     ·rw[aE.mp hy] at e;exact hne (aF _<|e▸hx)
    ·rcases aU.mp hb with rfl|hb
     ·exact .inl aG
     ·rcases aM.mp hb with hb|hb
      ·exact .inl<|aF _ hb
      ·rw[aE.mp hb];exact .inr na
   refine fin F2 _ (lH L k []) _ _ a S3 (s1.trans s2) (by rw[uO,e0]) (funext λj=> ?_) (by rw[aN];exact aP _) (by rw[mD _ _ _ kvs hz,if_pos rfl]);unfold lH
   by_cases z:j=k
   ·rw[if_pos z,if_pos z]
   ·rw[if_neg z,if_neg z,if_neg z])
theorem aEp(i:Nat){p1 p2 p3:Pos}{j:Nat}{k:Int}(hs:sd[i]? =some (oLy X.K l p L kvs ls))(h:PEd X sd e (.own ds))(hpk:p<k)(hn:fE kvs (.inl k)=none)(hc:kvs.length<=100000)(hE:∀a ls',E.nx (sd.set i<|oLy X.K l p (lH L k ds) (kvs++[(.inl k,.ref a)]) ls'))
  (hm:PS X (.Assign [.Subscript (.Name x p1) (.Constant (.int k) j p3) p2] e pos) (aLf (jO i) (tC<|.int k)<|wE X e)):PSd1 X sd (.Assign [.Subscript (.Name x p1) (.Constant (.int k) j p3) p2] e pos) E:=.mk λσ F H S=>
 hm.to ((h σ F H S).imp fun v H1 ⟨F1,S1,s1,q1⟩=>by
  obtain⟨g1,g2,⟨g3,o⟩,g5⟩:=lP S1 hs;obtain⟨a,xs,rfl,fa,ha2,rl2,na⟩:=q1;have hne:a∉l::ls:=λz=>na<|dI.mpr ⟨_,aK hs,z⟩
  have hal:a≠l:=λz=>hne<|z▸aG
  refine⟨.ref l,g1,l,_,rfl,DPut.k (k:=.inl k) g3<|qB hc, ?_⟩;rw[oF _ hn]
  have o1:LyOk X.K F1 (upd (upd H1 a<|.lst []) l (.dK<|kvs++[((Sum.inl k:Key),V.ref a)])) p (lH L k []) (kvs++[((Sum.inl k:Key),V.ref a)]) (ls++[a]):=by
   refine LyOk.new (o.mono (Same.refl _) λb hb ob q=> ?_) hpk hn ?_
   ·rw[bI (show b≠l from λz=>(bH.mp g5).1<|z▸hb),bI (show b≠a from λz=>hne<|z▸aF _ hb)];exact q
   ·rw[bI hal,bV]
  have nd:(l::(ls++[a])).Nodup:=by
   refine bH.mpr ⟨λz=> ?_,bE.mpr ⟨(bH.mp g5).2,by simp,λx hx y hy e=> ?_⟩⟩
   ·rcases aM.mp z with z|z
    ·exact(bH.mp g5).1 z
    ·exact hal (aE.mp z).symm
   ·rw[aE.mp hy] at e;exact hne (aF _<|e▸hx)
  have o2:=o1.wr (bH.mp nd).2 hpk (by rw[mD _ _ _ kvs hn,if_pos rfl]) rl2
  have eH:upd (upd (upd H1 a<|.lst []) l (.dK<|kvs++[((Sum.inl k:Key),V.ref a)])) a (.lst xs)=upd H1 l (.dK<|kvs++[((Sum.inl k:Key),V.ref a)]):=funext λb=>by
   by_cases z:b=a
   ·rw[z,bV,bI hal,ha2]
   ·rw[bI z]
    by_cases z2:b=l
    ·rw[z2,bV,bV]
    ·rw[bI z2,bI z,bI z2]
  have eL:lH (lH L k []) k ds=lH L k ds:=funext λj=>by
   unfold lH
   by_cases z:j=k
   ·rw[if_pos z,if_pos z]
   ·rw[if_neg z,if_neg z,if_neg z]
  rw[eH,eL] at o2;refine⟨_,F1,S1.reT (z':=oLy X.K l p (lH L k ds) (kvs++[((Sum.inl k:Key),V.ref a)])<|ls++[a]) hs g1 (λb ob hb q=> ?_) (qM (o:=.dK<|kvs++[((Sum.inl k:Key),V.ref a)]) S1.smp l trivial) (sS (λb hb=> ?_) bV o2) nd λb hb=> ?_,s1,hE a _⟩
  ·rw[bI (show b≠l from λz=>hb<|z▸aG)];exact q
  ·rcases aU.mp hb with rfl|hb
   ·exact g2 _ aG
   ·rcases aM.mp hb with hb|hb
    ·exact g2 b<|aF _ hb
    ·rw[aE.mp hb];exact fa
  ·rcases aU.mp hb with rfl|hb
   ·exact .inl aG
   ·rcases aM.mp hb with hb|hb
    ·exact .inl<|aF _ hb
    ·rw[aE.mp hb]
     exact .inr na)
namespace S45
variable {T:Type}[DecidableEq T](n:Nat)(pr:Nat->Int)(beh:Nat->T->T)(t0:T)
noncomputable abbrev Ent(T:Type):=Int×List Nat×T
noncomputable abbrev Lay(T:Type):=Int->List (List Nat×T)
noncomputable def tabQ(row:List Nat):T:=row.foldl (λt k=>beh k t) t0
noncomputable def prQ(row:List Nat):Int:=(row.map pr).sum
theorem tab_snoc(row:List Nat)(k:Nat):tabQ beh t0 (row++[k])=beh k (tabQ beh t0 row):=by unfold tabQ;rw[iM];rfl
theorem pr_snoc(row:List Nat)(k:Nat):prQ pr (row++[k])=prQ pr row+pr k:=by unfold prQ;rw[aW,aKv];simp
noncomputable def put(t:Int)(row:List Nat)(tab:T):Nat->Lay T->Lay T
 |0,ly=>ly
 |k+1,ly=>λj=>if j=t+pr k then put t row tab k ly j++[(row++[k],beh k tab)] else put t row tab k ly j
noncomputable def one(t:Int)(s:List (Ent T)×Lay T)(e:List Nat×T):List (Ent T)×Lay T:=if e.2∉s.1.map (λx=>x.2.2)/\s.1.length<=500 then(s.1++[(t,e.1,e.2)],put pr beh t e.1 e.2 n s.2) else s
noncomputable def lay0:Lay T:=λj=>if j=0 then[([],t0)] else[]
noncomputable def run:Nat->List (Ent T)×Lay T
 |0=>([],lay0 t0)
 |t+1=>((run t).2 t).foldl (one n pr beh t)<|run t
theorem pD(t:Int)(row:List Nat)(tab:T)(ly:Lay T):∀ (m:Nat) (j:Int) (x:List Nat×T),x∈put pr beh t row tab m ly j↔x∈ly j\/∃k,k<m/\j=t+pr k/\x=(row++[k],beh k tab)
 |0,j,x=>by show x∈ly j↔_;exact⟨.inl,λh=>h.elim id λ⟨k,hk,_⟩=>absurd hk<|Nat.not_lt_zero k⟩
 |m+1,j,x=>by
  have ih:=pD t row tab ly m j x;show x∈(if j=t+pr m then put pr beh t row tab m ly j++[(row++[m],beh m tab)] else put pr beh t row tab m ly j)↔_
  by_cases e:j=t+pr m
  ·rw[if_pos e,aM,ih,aE]
   constructor
   ·rintro((h|⟨k,hk,h⟩)|h)
    ·exact .inl h
    ·exact .inr ⟨k,by omega,h⟩
    ·exact .inr ⟨m,by omega,e,h⟩
   ·rintro(h|⟨k,hk,h1,h2⟩)
    ·exact .inl<|.inl h
    ·by_cases z:k=m
     ·subst z;exact .inr h2
     ·exact .inl<|.inr ⟨k,by omega,h1,h2⟩
  ·rw[if_neg e,ih]
   constructor
   ·rintro(h|⟨k,hk,h⟩)
    ·exact .inl h
    ·exact .inr ⟨k,by omega,h⟩
   ·rintro(h|⟨k,hk,h1,h2⟩)
    ·exact .inl h
    ·by_cases z:k=m
     ·subst z;exact absurd h1 e
     ·exact .inr ⟨k,by omega,h1,h2⟩
structure Ok(t:Int)(rest:List (List Nat×T))(s:List (Ent T)×Lay T):Prop where
 ent:∀e∈s.1,0<=e.1/\e.1<=t/\e.1=prQ pr e.2.1/\(∀k∈e.2.1,k<n)/\e.2.2=tabQ beh t0 e.2.1
 nd:(s.1.map λx=>x.2.2).Nodup
 ly:∀ (j:Int) (x:List Nat×T),x∈s.2 j->j=prQ pr x.1/\(∀k∈x.1,k<n)/\x.2=tabQ beh t0 x.1/\(x.1=[]\/∃r k,x.1=r++[k]/\(prQ pr r,r,tabQ beh t0 r)∈s.1)
 par:∀ (i:Nat) (e:Ent T),s.1[i]? =some e->(e.2.1=[]/\i=0)\/∃r k i',e.2.1=r++[k]/\i'<i/\s.1[i']? =some (prQ pr r,r,tabQ beh t0 r)
 ch:∀e∈s.1,∀k,k<n->(e.2.1++[k],beh k e.2.2)∈s.2 (e.1+pr k)
 done:∀ (j:Int) (x:List Nat×T),j<=t->x∈s.2 j->(j=t/\x∈rest)\/(∃e∈s.1,e.2.2=x.2/\e.1<=j)\/500<(s.1.filter λe=>decide<|e.1<=j).length
 sub:∀x∈rest,x∈s.2 t
 le:s.1.length<=501
variable {n pr beh t0}
theorem Ok.step(hp:∀k,k<n->1<=pr k){t:Int}(ht:0<=t){e:List Nat×T}{rest:List (List Nat×T)}{s:List (Ent T)×Lay T}(o:Ok n pr beh t0 t (e::rest) s):Ok n pr beh t0 t rest (one n pr beh t s e):=by
 have em:=o.sub e aG;obtain⟨l1,l2,l3,l4⟩:=o.ly t e em;unfold one
 by_cases c:e.2∉s.1.map (λx=>x.2.2)/\s.1.length<=500
 ·rw[if_pos c];obtain⟨c1,c2⟩:=c
  have old:∀ (j:Int) (x:List Nat×T),j<=t->x∈put pr beh t e.1 e.2 n s.2 j->x∈s.2 j:=λj x hj hx=>by
   rcases(pD pr beh t e.1 e.2 s.2 n j x).mp hx with h|⟨k,hk,h,_⟩
   ·exact h
   ·have:=hp k hk;omega
  refine⟨λx hx=> ?_, ?_,λj x hx=> ?_,λi x hx=> ?_,λx hx k hk=> ?_,λj x hj hx=> ?_,λx hx=>(pD pr beh t e.1 e.2 s.2 n t x).mpr<|.inl (o.sub x<|aF _ hx), ?_⟩
  ·rcases aM.mp hx with hx|hx
   ·exact o.ent x hx
   ·rw[aE.mp hx];exact⟨ht,mL _,l1,l2,l3⟩
  ·rw[aW]
   exact bE.mpr ⟨o.nd,by simp,fun x hx y hy z=>c1 (by
    have:y=e.2:=by simpa using hy
    rw[<-this,<-z]
    exact hx)⟩
  ·rcases(pD pr beh t e.1 e.2 s.2 n j x).mp hx with h|⟨k,hk,h1,h2⟩
   ·obtain⟨q1,q2,q3,q4⟩:=o.ly j x h;exact⟨q1,q2,q3,q4.imp id λ⟨r,k,z1,z2⟩=>⟨r,k,z1,aZ _ z2⟩⟩
   ·rw[h2];refine⟨by rw[h1,pr_snoc,<-l1],λi hi=> ?_,by rw[tab_snoc,<-l3],.inr ⟨e.1,k,rfl,aI _<|by rw[<-l1,<-l3];exact bL _⟩⟩
    rcases aM.mp hi with hi|hi
    ·exact l2 i hi
    ·rw[aE.mp hi];exact hk
  ·by_cases z:i<s.1.length
   ·rw[cU z] at hx
    rcases o.par i x hx with h|⟨r,k,i',h1,h2,h3⟩
    ·exact .inl h
    ·exact .inr ⟨r,k,i',h1,h2,by rw[cU<|by omega];exact h3⟩
   ·rw[dH<|by omega] at hx
    have i0:i-s.1.length=0:=by have:=(aD.mp hx).1;simp at this;omega
    rw[i0] at hx;have ex:(t,e.1,e.2)=x:=by simpa using hx
    subst ex
    rcases l4 with h|⟨r,k,h1,h2⟩
    ·refine .inl ⟨h, ?_⟩
     have:s.1=[]:=by
      cases q:s.1 with
      |nil=>rfl
      |cons f fs=>
       exfalso;have f0:s.1[0]? =some f:=by rw[q];rfl
       rcases o.par 0 f f0 with⟨g1,_⟩|⟨_,_,i',_,g2,_⟩
       ·have fm:f∈s.1:=aK f0;obtain⟨_,_,_,_,g5⟩:=o.ent f fm;refine c1<|aQ.mpr ⟨f,fm, ?_⟩;rw[g5,g1,l3,h]
       ·omega
     rw[this] at i0 z;simp at i0;exact i0
    ·obtain⟨i',hi'⟩:=cX h2;have:=(aD.mp hi').1;exact .inr ⟨r,k,i',h1,by omega,by rw[cU this];exact hi'⟩
  ·rcases aM.mp hx with hx|hx
   ·exact(pD pr beh t e.1 e.2 s.2 n _ _).mpr (.inl<|o.ch x hx k hk)
   ·rw[aE.mp hx];exact(pD pr beh t e.1 e.2 s.2 n _ _).mpr<|.inr ⟨k,hk,rfl,rfl⟩
  ·rcases o.done j x hj (old j x hj hx) with⟨h1,h2⟩|⟨f,h1,h2,h3⟩|h
   ·rcases aU.mp h2 with h2|h2
    ·refine .inr<|.inl ⟨(t,e.1,e.2),aI _<|bL _,by rw[h2], ?_⟩;rw[h1];exact mL _
    ·exact .inl ⟨h1,h2⟩
   ·exact .inr<|.inl ⟨f,aZ _ h1,h2,h3⟩
   ·refine .inr<|.inr ?_;rw[sD,aN];omega
  ·rw[aN];show s.1.length+1<=501;omega
 ·rw[if_neg c];refine⟨o.ent,o.nd,o.ly,o.par,o.ch,λj x hj hx=> ?_,λx hx=>o.sub x<|aF _ hx,o.le⟩
  rcases o.done j x hj hx with⟨h1,h2⟩|h
  ·rcases aU.mp h2 with h2|h2
   ·refine .inr ?_
    by_cases m:e.2∈s.1.map (λx=>x.2.2)
    ·obtain⟨f,f1,f2⟩:=aQ.mp m;exact .inl ⟨f,f1,by rw[h2];exact f2,by rw[h1];exact(o.ent f f1).2.1⟩
    ·refine .inr ?_;have:s.1.filter (λe=>decide<|e.1<=j)=s.1:=cN.mpr λf hf=>decide_eq_true (by rw[h1];exact(o.ent f hf).2.1)
     rw[this];exact nV λz=>c ⟨m,z⟩
   ·exact .inl ⟨h1,h2⟩
  ·exact .inr h
theorem Ok.fold(hp:∀k,k<n->1<=pr k){t:Int}(ht:0<=t):∀ {rest:List (List Nat×T)}{s:List (Ent T)×Lay T},Ok n pr beh t0 t rest s->Ok n pr beh t0 t [] (rest.foldl (one n pr beh t) s)
 |[],_,o=>o
 |e::rest,s,o=>Ok.fold (rest:=rest) (s:=one n pr beh t s e) hp ht<|o.step hp ht
theorem ok_run(hp:∀k,k<n->1<=pr k):∀t:Nat,Ok n pr beh t0 (t:Int) ((run n pr beh t0 t).2 t) (run n pr beh t0 t)
 |0=>by
  refine⟨λe h=>(nomatch h),cZ,λj x hx=> ?_,λi e h=>by simp[run] at h,λe h=>(nomatch h),λj x hj hx=> ?_,λx hx=>hx,bP _⟩
  ·have hx:x∈(if j=0 then[(([]:List Nat),t0)] else[]):=hx
   by_cases z:j=0
   ·rw[if_pos z] at hx;rw[aE.mp hx,z];exact⟨rfl,λk hk=>(nomatch hk),rfl,.inl rfl⟩
   ·rw[if_neg z] at hx;cases hx
  ·have hx2:x∈(if j=0 then[(([]:List Nat),t0)] else[]):=hx
   by_cases z:j=0
   ·subst z;exact .inl ⟨rfl,hx⟩
   ·rw[if_neg z] at hx2;cases hx2
 |t+1=>by
  have o:=Ok.fold hp (tF t)<|ok_run hp t;have o:Ok n pr beh t0 (t:Int) [] (run n pr beh t0<|t+1):=o;refine⟨λe he=> ?_,o.nd,o.ly,o.par,o.ch,λj x hj hx=> ?_,λx hx=>hx,o.le⟩
  ·obtain⟨h1,h2,h3⟩:=o.ent e he;exact⟨h1,by omega,h3⟩
  ·by_cases z:j<=(t:Int)
   ·rcases o.done j x z hx with⟨_,h⟩|h
    ·cases h
    ·exact .inr h
   ·have:j=((t+1:Nat):Int):=by omega
    subst this;exact .inl ⟨rfl,hx⟩
theorem ok_end(hp:∀k,k<n->1<=pr k)(t:Nat):Ok n pr beh t0 (t:Int) [] (run n pr beh t0<|t+1):=Ok.fold hp (tF t)<|ok_run hp t
variable (n pr beh)
def HoldsP(b:Int)(B:List (Ent T)):Prop:=(∃e∈B,e.2.1=[])/\∀e∈B,∀k,k<n->e.1+pr k<=b->∃e'∈B,e'.2.2=beh k e.2.2/\e'.1<=e.1+pr k
variable {n pr beh}
variable {t b:Int}{s:List (Ent T)×Lay T}{B:List (Ent T)}
theorem aJF(o:Ok n pr beh t0 t [] s){x y:Ent T}(hx:x∈s.1)(hy:y∈s.1)(h:x.2.2=y.2.2):x=y:=by
 obtain⟨i,hi,ex⟩:=cI hx;obtain⟨j,hj,ey⟩:=cI hy
 have e1:(s.1.map λx=>x.2.2)[i]'(by rw[aA];exact hi)=(s.1.map λx=>x.2.2)[j]'(by rw[aA];exact hj):=by rw[cJ,cJ,ex,ey,h]
 have:i=j:=(dR o.nd).mp e1;subst this;rw[<-ex,<-ey]
theorem holds_all(hp:∀k,k<n->1<=pr k)(o:Ok n pr beh t0 t [] s)(hb:b<=t)(h0:0<=b)(ne:s.1≠[])(hc:(s.1.filter λe=>decide<|e.1<=b).length<=500)(hB:∀x,x∈B↔x∈s.1/\x.1<=b):HoldsP n pr beh b B:=by
 refine⟨?_,λe he k hk hle=> ?_⟩
 ·cases q:s.1 with
  |nil=>exact absurd q ne
  |cons f fs=>
   have f0:s.1[0]? =some f:=by rw[q];rfl
   have fm:=aK f0
   rcases o.par 0 f f0 with⟨g1,_⟩|⟨_,_,i',_,g2,_⟩
   ·refine⟨f,(hB f).mpr ⟨fm, ?_⟩,g1⟩;have:=(o.ent f fm).2.2.1;rw[g1] at this;have:f.1=0:=this;omega
   ·omega
 ·obtain⟨e1,e2⟩:=(hB e).mp he
  rcases o.done _ _ (by omega) (o.ch e e1 k hk) with⟨_,h⟩|⟨f,h1,h2,h3⟩|h
  ·cases h
  ·exact⟨f,(hB f).mpr ⟨h1,by omega⟩,h2,h3⟩
  ·exfalso
   have mono:(s.1.filter λf=>decide<|f.1<=e.1+pr k).length<=(s.1.filter λf=>decide<|f.1<=b).length:=by rw[<-xI,<-xI];exact List.countP_mono_left λf _ hf=>decide_eq_true<|Int.le_trans (of_decide_eq_true hf) hle
   omega
theorem holds_pre(o:Ok n pr beh t0 t [] s)(hp:∀k,k<n->1<=pr k){m:Nat}(hm:m<s.1.length):¬ HoldsP n pr beh t (s.1.take m):=by
 have he:s.1[m]? =some s.1[m]:=by simp[hm]
 have em:=aK he;rintro⟨⟨f,f1,f2⟩,cl⟩
 have out:∀x∈s.1.take m,x.2.2≠s.1[m].2.2:=λx hx z=>by
  have:=aJF o (gN hx) em z;obtain⟨i,hi,ex⟩:=cI hx;have i2:i<m:=by rw[cH] at hi;omega
  rw[tO] at ex
  have e1:(s.1.map λx=>x.2.2)[i]'(by rw[aA];omega)=(s.1.map λx=>x.2.2)[m]'(by rw[aA];omega):=by rw[cJ,cJ,ex,z]
  have:=(dR o.nd).mp e1;omega
 rcases o.par m _ he with⟨q,q0⟩|⟨r,k,i',q1,q2,q3⟩
 ·subst q0;rw[yP] at f1;cases f1
 ·have ym:(prQ pr r,r,tabQ beh t0 r)∈s.1.take m:=by refine aK (i:=i') ?_;rw[List.getElem?_take,if_pos q2];exact q3
  obtain⟨h1,h2,h3,h4,h5⟩:=o.ent _ em;have kn:k<n:=h4 k (by rw[q1];simp);have hpk:=hp k kn;rw[q1,pr_snoc] at h3;obtain⟨z,z1,z2,_⟩:=cl _ ym k kn (by show prQ pr r+pr k<=t;omega);exact out z z1 (by rw[z2,h5,q1,tab_snoc])
end S45
end DL
namespace DL
open PySem PySem.Spec PyProof.Rows L2
variable {p:Int×Int}{L:List SK}
noncomputable def fS(p:Int×Int)(q:SQ):List Nat:=(bQ p).map λws=>sL p<|onQ p q ws
noncomputable def fH(other one:List Nat):List Nat:=one.map λi=>other.getD i 0
noncomputable def iH(p:Int×Int)(nb:List Nat):List (List Int):=nb.map λi=>(bQ p).getD i []
noncomputable def fQ(p:Int×Int)(L:List SK)(k:Nat)(t:List (List Int)):List (List Int):=t.map<|onQ p (L.getD k AN).1
noncomputable def prK(L:List SK)(k:Nat):Int:=(L.getD k AN).2
noncomputable def mvD(p:Int×Int)(s:SK):D:=.tup [.int s.2,.tup (cD<|fS p s.1)]
def NOk(p:Int×Int)(nb:List Nat):Prop:=nb.length=(bQ p).length/\∀i∈nb,i<(bQ p).length
theorem aAj(p:Int×Int)(q:SQ):(fS p q).length=(bQ p).length:=by unfold fS;rw[aA]
theorem aHw(q:SQ){i:Nat}(hi:i<(bQ p).length):(fS p q).getD i 0=sL p (onQ p q<|(bQ p).getD i []):=by unfold fS;simp[cB,hi]
theorem aKY(hp:p∈bO){i:Nat}(hi:i<(bQ p).length):Fil p ((bQ p).getD i []):=rS hp<|getD_mem hi
theorem aLN(hp:p∈bO){q:SQ}(O:pZ p q){i:Nat}(hi:i<(bQ p).length):(fS p q).getD i 0<(bQ p).length:=by rw[aHw q hi];exact(aCP hp (zA O<|aKY hp hi)).2.1
theorem aDe(hp:p∈bO){q:SQ}(O:pZ p q){nb:List Nat}(h:NOk p nb):NOk p (fH (fS p q) nb):=by refine⟨by unfold fH;rw[aA];exact h.1,λi hi=> ?_⟩;obtain⟨j,hj,rfl⟩:=aQ.mp hi;exact aLN hp O<|h.2 j hj
theorem wO(hp:p∈bO){q:SQ}(O:pZ p q){nb:List Nat}(h:NOk p nb):iH p (fH (fS p q) nb)=(iH p nb).map (onQ p q):=by
 unfold iH fH;rw[bB,bB];refine bW λi hi=> ?_
 show(bQ p).getD ((fS p q).getD i 0) []=onQ p q ((bQ p).getD i []);rw[aHw q<|h.2 i hi];exact(aCP hp<|zA O (aKY hp<|h.2 i hi)).2.2
theorem vG(hp:p∈bO){a b:List Nat}(ha:NOk p a)(hb:NOk p b)(h:iH p a=iH p b):a=b:=by
 refine nN (ha.1.trans hb.1.symm) λi h1 h2=> ?_
 have e:(iH p a)[i]'(by unfold iH;rw[aA];exact h1)=(iH p b)[i]'(by unfold iH;rw[aA];exact h2):=by simp only[h]
 unfold iH at e;rw[cJ,cJ] at e;rw[<-aCK hp (ha.2 _<|fZ h1),<-aCK hp (hb.2 _<|fZ h2),e]
noncomputable def st0(p:Int×Int):List Nat:=bM (bQ p).length
theorem aLz(p:Int×Int):NOk p (st0 p):=⟨by unfold st0;rw[fN],λi hi=>cE.mp hi⟩
theorem aDc(p:Int×Int):iH p (st0 p)=bQ p:=by
 unfold iH st0;refine nN (by simp) λi h1 h2=> ?_
 rw[cJ,aGA];simp[cB,h2]
noncomputable def nrQ(p:Int×Int)(L:List SK)(row:List Nat):List Nat:=row.foldl (λnb k=>fH (fS p (L.getD k AN).1) nb)<|st0 p
theorem uD(row:List Nat)(k:Nat):nrQ p L (row++[k])=fH (fS p (L.getD k AN).1) (nrQ p L row):=by unfold nrQ;rw[iM];rfl
theorem rD(hp:p∈bO)(S:∀s∈L,pZ p s.1):∀ {row:List Nat},fY L row->NOk p (nrQ p L row)/\iH p (nrQ p L row)=S45.tabQ (fQ p L) (bQ p) row:=λ{row}=>by
 have g:∀ (row:List Nat) (nb:List Nat) (t:List (List Int)),NOk p nb->iH p nb=t->fY L row->NOk p (row.foldl (λnb k=>fH (fS p (L.getD k AN).1) nb) nb)/\iH p (row.foldl (λnb k=>fH (fS p (L.getD k AN).1) nb) nb)=row.foldl (λt k=>fQ p L k t) t:=λrow=>by
  induction row with
  |nil=>exact λnb t h1 h2 _=>⟨h1,h2⟩
  |cons k row ih=>
   intro nb t h1 h2 h3;have O:pZ p (L.getD k AN).1:=S _ (DL.getD_mem<|h3 k aG);refine ih _ _ (aDe hp O h1) ?_ λj hj=>h3 j<|aF _ hj
   rw[wO hp O h1,h2];rfl
 exact λh=>g row (st0 p) (bQ p) (aLz p) (aDc p) h
open Classical in
noncomputable def vL(L:List SK)(d:D):SK:=if h:∃s,s∈L/\skD s=d then h.choose else AN
theorem wU(nd:(L.map λs=>sqD s.1).Nodup){s:SK}(h:s∈L):vL L (skD s)=s:=by
 have ex:∃z,z∈L/\skD z=skD s:=⟨s,h,rfl⟩;unfold vL;rw[dif_pos ex];obtain⟨h1,h2⟩:=ex.choose_spec;generalize ex.choose=z at h1 h2;obtain⟨i,hi,ez⟩:=cI h1;obtain⟨j,hj,es⟩:=cI h
 have e:sqD z.1=sqD s.1:=by
  have h2:D.tup [sqD z.1,.int z.2]=D.tup [sqD s.1,.int s.2]:=h2;injection h2 with h2
  exact(uP.inj h2).1
 have:i=j:=(dR (i:=i) (j:=j) (h₀:=by rw[aA];exact hi) (h₁:=by rw[aA];exact hj) nd).mp (by rw[cJ,cJ,ez,es,e]);subst this;exact ez.symm.trans es
def aOw:List D->R->Prop:=λds r=>∃p q,p∈bO/\pZ p q/\ds=[cK p,sqD q]/\r=.val (.tup (cD<|fS p q))
def aCr:List D->R->Prop:=λds r=>∃p L,p∈bO/\StkOk p L/\(L.map λs=>sqD s.1).Nodup/\ds=[cK p,.lst<|L.map skD]/\r=.own (L.map<|mvD p)
def aFj:List D->R->Prop:=λds r=>∃one other:List Nat,one.length<=100/\(∀i∈one,i<other.length)/\ds=[.tup<|cD one,.tup<|cD other]/\r=.val (.tup (cD<|fH other one))
def aCH:List D->R->Prop:=λds r=>∃ (B:List (List Int)) (nb:List Nat),nb.length<=100/\(∀i∈nb,i<B.length)/\ds=[.lst<|B.map bJ,.tup<|cD nb]/\r=.val (.tup<|(nb.map λi=>B.getD i []).map bJ)
def aLt:List D->R->Prop:=λds r=>∃p L row,p∈bO/\StkOk p L/\fY L row/\ds=[.lst (L.map<|mvD p),.tup<|cD row,.tup (cD<|st0 p)]/\r=.val (.tup (cD<|nrQ p L row))
section
variable {X:Cx}{sd:List Slot}{a b:Expr}{pos:Pos}{ds:List D}{κ:Type}[DecidableEq κ]{hk:HK X.prog X.w κ}{ks:List κ}{k:κ}
theorem aMt(hu:X.A.units+2<AO)(ha:PEd X sd a (.val<|hk.dat k))(hb:PDc X sd b hk ks ds)(hm:AT .In b=false:=by with_unfolding_all rfl):PEd X sd (.Compare a [.In] [b] pos) (.val<|.bl (decide<|k∈ks)):=.mk λσ F H S=>
 (aDg (aHI (hk:=hk)) eY eY hm).to ((ha σ F H S).imp fun v H1 ⟨F1,S1,s1,q1⟩=>(hb.get σ F1 H1 S1).imp fun u H2 ⟨F2,l,S2,s2,eu,g⟩=>by
  obtain⟨ad,rfl,hr⟩:=hk.key q1;obtain⟨o,g1,g2⟩:=g F2 H2 S2<|Same.refl _;refine⟨F2,ad,l,o,k,ks,ds,rfl,eu,S2.sub,hk.mono s2 hr,g1,g2,hu,F2,S2,s1.trans s2, ?_⟩;simp only[ResOk,Rep]
  rfl)
end
section
variable {X:Cx}{sd:List Slot}{a b:Expr}{pos:Pos}{ds:List D}{κ:Type}[DecidableEq κ]{hk:HK X.prog X.w κ}{ks:List κ}{k:κ}{kk:Bool}
theorem wH(h:kk=true↔k∈ks):decide (k∈ks)=kk:=by
 cases kk with
 |true=>exact decide_eq_true<|h.mp rfl
 |false=>exact decide_eq_false λz=>by cases h.mpr z
theorem aHD(h:kk=true↔k∈ks)(hu:X.A.units+2<AO)(ha:PEd X sd a (.val<|hk.dat k))(hb:PDc X sd b hk ks ds)(hm:AT .In b=false:=by with_unfolding_all rfl):PEd X sd (.Compare a [.In] [b] pos) (.val<|.bl kk):=PEd.cast (aMt hu ha hb hm) (by rw[wH h])
theorem aKb(h:kk=true↔k∈ks)(hu:X.A.units+2<AO)(ha:PEd X sd a (.val<|hk.dat k))(hb:PDc X sd b hk ks ds)(hm:AT .In b=false:=by with_unfolding_all rfl):PTd X sd (.Compare a [.In] [b] pos) kk:=PTd.cast (aJG hu ha hb hm)<|wH h
theorem aAT(h:kk=true↔k∈ks)(hu:X.A.units+2<AO)(ha:PEd X sd a (.val<|hk.dat k))(hb:PDc X sd b hk ks ds)(hm:AT .NotIn b=false:=by with_unfolding_all rfl):PTd X sd (.Compare a [.NotIn] [b] pos) (!kk):=PTd.cast (aGh hu ha hb hm) (by rw[wH h])
end
theorem aBz(bs:List Bool):((bM bs.length).any λi=>(bs[i]?).getD false)=bs.any id:=by
 apply gM.mpr;simp only[fC,cE,id_eq]
 constructor
 ·rintro⟨i,hi,h⟩;exact⟨bs[i],fZ hi,by simpa[hi] using h⟩
 ·rintro⟨b,hb,h⟩;obtain⟨i,hi,rfl⟩:=cI hb;exact⟨i,hi,by simpa[hi] using h⟩
variable {X:Cx}{sd:List Slot}{e:Expr}{pos:Pos}
theorem aEk(hc:X.calm=true):kG X (.builtin "any") (λxs H Q=>∃ (a:BG) (bs:List Bool),xs=[.ref a]/\SqL X.K H a (bs.map V.bl)/\Q (.bl<|bs.any id) H):=by
 intro pins s σ H xs us Q I r h;obtain⟨a,bs,rfl,ha,q⟩:=h;obtain⟨u,rfl,ru⟩:=oE r;cases ru;obtain⟨its,rv,p,hz⟩:=I.list ha;have hl:=rv.length;rw[aA] at hl;have isl:s.heap.IsList a its.toArray:=p.isList;have alt:a<s.heap.objs.size:=by obtain⟨o,ho,_⟩:=isl;exact aR ho
 refine call_any_walk<|Ay isl ?_;refine⟨s.heap.objs.size,[s.heap.objs.size,a],[s.heap.objs.size],its.toArray.size,_,_,λi=>(bs[i]?).getD false,rfl,Walks.list (A:=X.A.in1) (I.ok.hd hc) _ a (bN alt) its.toArray,⟨⟨_,bK _ rfl,rfl,rfl⟩,isl.push _⟩,λi v s' Q' E' hP hQ=> ?_,λh' tk hk=> ?_⟩
 ·obtain⟨b,e,rfl⟩:=aBr rv (by simpa using hP);simp only[e,aGC] at hQ;exact AZ hQ
 ·have e:((bM its.toArray.size).any λi=>(bs[i]?).getD false)=bs.any id:=by rw[aY,<-hl];exact aBz bs
  rw[e];refine⟨.bl<|bs.any id,H,I.kept (t':=tk) λb o g=>hk b o (λz=> ?_)<|aJ _ g,rfl,q⟩;have zb:b=s.heap.objs.size:=by simpa using z
  exact bN (aR g) zb
theorem aIA{p:Pos}{bs:List Bool}(hg:Gl X "any")(hm:X.mg "any"=none)(ha:PEd X sd e (.bor<|bs.map D.bl))(hc:X.calm=true:=by rfl)(hst:AC [e] X.env=(false,eval e X.env)::AC [] X.env:=by rfl):PEd X sd (.Call (.Name "any" p) [e] [] pos) (.val (.bl<|bs.any id)):=
 mC (he:=hst) (aEk hc) hg hm boot_any (aC ha aO trivial hst) λσ F H vs Q S q k=>by
  cases q with
  |cons q1 q2=>cases q2;obtain⟨p,xs,rfl,hp,rl,_⟩:=q1;exact⟨p,bs,rfl,.of (by rw[<-rl.bls];exact hp),k _ F H S (Same.refl _)<|by simp only[ResOk,Rep]⟩
noncomputable abbrev Bk:=S45.Ent (List<|List Int)
noncomputable def enD(e:Bk):D:=.tup [.int e.1,.tup<|cD e.2.1,.tup<|e.2.2.map bJ]
structure BkOk(p:Int×Int)(L:List SK)(b:Int)(B:List Bk):Prop where
 len:B.length<=700
 ent:∀e∈B,e.1=S45.prQ (prK L) e.2.1/\e.1<=b/\fY L e.2.1/\e.2.1.length<=400/\e.2.2=S45.tabQ (fQ p L) (bQ p) e.2.1
 nd:(B.map λe=>e.2.2).Nodup
noncomputable def gB(nb:List Nat):List Key:=nb.map λ(i:Nat)=>(Sum.inl (i:Int):Key)
theorem mW(nb:List Nat):tD (gB nb)=.tup (cD nb):=by unfold tD gB cD;rw[bB];rfl
theorem qY:∀ {a b:List Nat},gB a=gB b->a=b
 |[],[],_=>rfl
 |[],_::_,h=>by cases h
 |_::_,[],h=>by cases h
 |x::a,y::b,h=>by
  have h:(Sum.inl (x:Int):Key)::gB a=(Sum.inl (y:Int):Key)::gB b:=h;injection h with h1 h2
  have:=Sum.inl.inj h1;rw[qY h2];congr 1;omega
noncomputable def ksB(p:Int×Int)(L:List SK)(B:List Bk):List (List Key):=B.map λe=>gB<|nrQ p L e.2.1
noncomputable def pcD(P:AF)(w:AM)(K:aB)(p:Int×Int)(L:List SK)(B:List Bk):D:=gD (hkT P w) K (ksB p L B)<|B.map λe=>.int e.1
theorem aMk(L:List SK)(row:List Nat):aHT (aHP L row)=S45.prQ (prK L) row:=by
 unfold S45.prQ aHP prK;generalize row.map (λt=>(L.getD t AN).2)=xs
 have g:∀n:Nat,aHT (xs.take n)=(xs.take n).sum:=λn=>by
  induction n with
  |zero=>rfl
  |succ n ih=>
   by_cases h:n<xs.length
   ·rw[yI 0 h,aEg,ih,aKv];simp
   ·have e:xs.take (n+1)=xs.take n:=by rw[hV<|by omega,hV<|by omega]
    rw[e,ih]
 have:=g xs.length;rw[eI] at this;exact this
variable {b:Int}{B:List Bk}
theorem BkOk.nr(hp:p∈bO)(S:StkOk p L)(O:BkOk p L b B){e:Bk}(he:e∈B):NOk p (nrQ p L e.2.1)/\iH p (nrQ p L e.2.1)=e.2.2:=by obtain⟨_,_,h3,_,h5⟩:=O.ent e he;obtain⟨q1,q2⟩:=rD hp (λs hs=>(S.st s hs).1) h3;exact⟨q1,q2.trans h5.symm⟩
theorem BkOk.inj(hp:p∈bO)(S:StkOk p L)(O:BkOk p L b B){x y:Bk}(hx:x∈B)(hy:y∈B)(h:nrQ p L x.2.1=nrQ p L y.2.1):x=y:=by
 have e:x.2.2=y.2.2:=by rw[<-(O.nr hp S hx).2,<-(O.nr hp S hy).2,h]
 obtain⟨i,hi,ex⟩:=cI hx;obtain⟨j,hj,ey⟩:=cI hy;have:i=j:=(dR (i:=i) (j:=j) (h₀:=by rw[aA];exact hi) (h₁:=by rw[aA];exact hj) O.nd).mp (by rw[cJ,cJ,ex,ey,e]);subst this;exact ex.symm.trans ey
theorem BkOk.take(O:BkOk p L b B)(t:Nat):BkOk p L b (B.take t):=⟨cG (by rw[cH];omega) O.len,λe he=>O.ent e<|gN he,by rw[mJ];exact O.nd.sublist<|aHL _ _⟩
def aLv:List D->R->Prop:=λds r=>∃p L b B e,StkOk p L/\BkOk p L b B/\e∈B/\ds=[.lst<|L.map skD,.int b,.int e.1,.tup<|cD e.2.1]/\r=.val (.bl true)
def aOB(P:AF)(w:AM)(K:aB):List D->R->Prop:=λds r=>∃p L b B,p∈bO/\StkOk p L/\BkOk p L b B/\ds=[cK p,.lst<|L.map skD,.lst (L.map<|mvD p),.int b,.lst<|B.map enD]/\r=.val (pcD P w K p L B)
noncomputable def qS(p:Int×Int)(L:List SK)(B:List Bk)(nb:List Nat)(m:Int):Bool:=B.any λe=>decide (nrQ p L e.2.1=nb)&&decide (e.1<=m)
def aCZ(P:AF)(w:AM)(K:aB):List D->R->Prop:=λds r=>∃p L b B nb m,p∈bO/\StkOk p L/\BkOk p L b B/\ds=[pcD P w K p L B,.tup<|cD nb,.int m]/\r=.val (.bl<|qS p L B nb m)
noncomputable def aGD(p:Int×Int)(L:List SK)(b:Int)(B:List Bk):Bool:=B.all λe=>(bM L.length).all λk=> !decide (e.1+prK L k<=b)||qS p L B (fH (fS p (L.getD k AN).1)<|nrQ p L e.2.1) (e.1+prK L k)
def aDj(P:AF)(w:AM)(K:aB):List D->R->Prop:=λds r=>∃p L b B,p∈bO/\StkOk p L/\BkOk p L b B/\ds=[.lst (L.map<|mvD p),.int b,pcD P w K p L B]/\r=.val (.bl<|aGD p L b B)
def aHH:List D->R->Prop:=λds r=>∃p L b B,BkOk p L b B/\0<=b/\ds=[.int b,.lst<|B.map enD]/\r=.val (.bl (B.any λe=>decide<|e.2.1=[]))
def aHF:List D->R->Prop:=λds r=>∃p L b B,p∈bO/\StkOk p L/\(L.map λs=>sqD s.1).Nodup/\BkOk p L b B/\0<=b/\ds=[cK p,.lst<|L.map skD,.int b,.lst<|B.map enD]/\r=.val (.bl<|(B.any λe=>decide<|e.2.1=[])&&aGD p L b B)
theorem aEQ(hp:p∈bO)(S:StkOk p L)(O:BkOk p L b B):((B.any λe=>decide<|e.2.1=[])&&aGD p L b B)=true↔S45.HoldsP L.length (prK L) (fQ p L) b B:=by
 rw[bC,fC];unfold S45.HoldsP;refine and_congr ⟨λ⟨e,h1,h2⟩=>⟨e,h1,of_decide_eq_true h2⟩,λ⟨e,h1,h2⟩=>⟨e,h1,decide_eq_true h2⟩⟩ ?_;unfold aGD;rw[cR];refine⟨λh e he k hk hle=> ?_,λh e he=> ?_⟩
 ·have:=cR.mp (h e he) k<|cE.mpr hk;rw[decide_eq_true hle] at this;have:qS p L B (fH (fS p (L.getD k AN).1)<|nrQ p L e.2.1) (e.1+prK L k)=true:=by simpa using this
  obtain⟨x,x1,x2⟩:=fC.mp this;rw[bC] at x2;have y1:=of_decide_eq_true x2.1;refine⟨x,x1, ?_,of_decide_eq_true x2.2⟩;obtain⟨n1,n2⟩:=O.nr hp S he;have Ok:=(S.st _<|DL.getD_mem (d:=(AN:SK)) hk).1;rw[<-(O.nr hp S x1).2,y1,wO hp Ok n1,n2];rfl
 ·rw[cR];intro k hk;have hk:=cE.mp hk
  by_cases hle:e.1+prK L k<=b
  ·obtain⟨x,x1,x2,x3⟩:=h e he k hk hle;obtain⟨n1,n2⟩:=O.nr hp S he;have Ok:=(S.st _<|DL.getD_mem (d:=(AN:SK)) hk).1
   have:qS p L B (fH (fS p (L.getD k AN).1) (nrQ p L e.2.1)) (e.1+prK L k)=true:=fC.mpr ⟨x,x1,by
    rw[bC];refine⟨decide_eq_true<|vG hp (O.nr hp S x1).1 (aDe hp Ok n1) ?_,decide_eq_true x3⟩;rw[(O.nr hp S x1).2,wO hp Ok n1,n2,x2]
    rfl⟩
   rw[this,Bool.or_true]
  ·rw[decide_eq_false hle];rfl
variable {prog:AF}{w:AM}{A:BH}{E:BE->BF->Prop}{s:BF}{r:BG}{n:Nat}{t u v:Tok}
theorem zI{Q:List BE->BF->Prop}(hh:A.handled=none)(ir:IsRange s.heap r 0 (n:Int) 1 t u v)(hn:n<=10000)
  (q:∀ (h':BI) (tk:Nat) (acc:Array BE),(∀b o,s.heap.get? b=some o->h'.get? b=some o)->ItemsOf (λi v=>∃t,v=.int (0+i*1) t) acc n->Q acc.toList {s with heap:=h',toks:=tk}):AK (AH prog w) A (collect<|.ref r) Q E s:=by
 have sz:Builtin.Range.rangeSize 0 (n:Int) 1=(n:Int):=by
  rw[rangeSize_one]
  split<;>omega
 have fin:∀ (h':BI) (tk:Nat) (acc:Array BE) (c':Nat),(∀b o,s.heap.get? b=some o→h'.get? b=some o)→h'.get? s.heap.objs.size=some {cls:= .type "list",dict:=none,data:= .seq acc c',slots:= #[]}→ItemsOf (fun i v=>∃t,v= .int (0+i * 1) t) acc n→AK (AH prog w) A (do
   let o <-load s.heap.objs.size
   match o.data with
   |.seq xs _=>pure xs.toList
   |_=>unsupported "internal:collect") Q E {s with heap:=h',toks:=tk}:=λh' tk acc c' k1 k2 k3=>AA (wpAny_load k2 (AB (q h' tk acc k1 k3)))
 have new:(s.heap.push {cls:=.type "list",data:=.seq ([]:List BE).toArray}).get? s.heap.objs.size=some {cls:=.type "list",data:=.seq #[]}:=bK _ rfl;have main:=wpAny_extend_range (prog:=prog) (w:=w) (A:=A) (s:={s with heap:=s.heap.push {cls:=.type "list",data:=.seq ([]:List BE).toArray}}) (R:=λ(x:Result) (st:BF)=>∃ (h':BI) (tk:Nat) (acc:Array BE) (c':Nat),x=.ok (.ret<|.ref s.heap.objs.size)/\st={s with heap:=h',toks:=tk}/\(∀b o,s.heap.get? b=some o->h'.get? b=some o)/\h'.get? s.heap.objs.size=some {cls:=.type "list",dict:=none,data:=.seq acc c',slots:= #[]}/\ItemsOf (λi v=>∃t,v=.int (0+i*1) t) acc n) hh (aJ _ ir) (small_one (by omega) (by omega) (by omega)<|by omega) sz (by omega) s.heap.objs.size (.ref s.heap.objs.size) 0 new λh' tk acc c' k1 k2 k3=>⟨h',tk,acc,c',rfl,rfl,λb o g=>k1 b o (bN<|aR g)<|aJ _ g,k2,k3⟩
 unfold collect;refine AA (wpAny_runValue<|Aw entry_proto_collect' ?_);rw[Around.under_plainId PySem.F.plain_proto_collect _];refine AA (m:=newList []) (AV<|AB ⟨plainId_quiet yT _,Aw entry_list_iadd' ?_⟩);rw[Around.under_plainId yT _];refine AY main (λz st x=> ?_) λz st x=> ?_
 ·cases z with
  |done f=>obtain⟨h',tk,acc,c',e,rfl,k1,k2,k3⟩:=x;cases e;exact fin h' tk acc c' k1 k2 k3
  |again c1=>refine⟨x.1,BA x.2 λy st y2=> ?_⟩;obtain⟨h',tk,acc,c',rfl,rfl,k1,k2,k3⟩:=y2;exact fin h' tk acc c' k1 k2 k3
 ·obtain⟨_,_,_,_,e,_⟩:=x;cases e
theorem yZ(r:BG)(n:Nat)(t u v:Tok)(hn:n<=10000):Meets (Builtin.«tuple.__new__» ⟨[.type "tuple",.ref r],[]⟩) (λA R s=>A.handled=none/\IsRange s.heap r 0 (n:Int) 1 t u v/\∀ (h':BI) (tk:Nat) (acc:Array BE),(∀b o,s.heap.get? b=some o->h'.get? b=some o)->ItemsOf (λi v=>∃t,v=.int (0+i*1) t) acc n->R (.ok (.ret<|.ref h'.objs.size)) {s with heap:=h'.push {cls:=.type "tuple",data:=.seq acc},toks:=tk}):=
 .of_wp λprog w A R s h=>by
  obtain⟨hp,gn,dr,tk,os⟩:=s;obtain⟨hh,ir,q⟩:=h;have a1:=sub_tuple_self;have a2:=init_tuple_lookup;have a3:=madeHere_tuple;have ty:Shared.TypeIs ⟨hp,gn,dr,tk,os⟩ (.ref r) "range":=⟨_,ir,rfl⟩;have hh1:A.in1.handled=none:=hh
  wp_walk using AutoSeq1.wpAny_loadPart' ir,wpAny_typeOf ty,zI (s:=⟨hp,gn,dr,tk,os⟩) hh1 ir hn
  intro h' tk' acc k1 k2;refine AA (m:=Builtin.Tuple.tupleExact acc.toList.toArray) ?_;unfold Builtin.Tuple.tupleExact;have e:acc.toList.toArray=acc:=by simp
  rw[e];exact AV (AB ⟨_,rfl,q h' tk' acc k1 k2⟩) (show acc.size<=AL by rw[k2.1];exact dN<|fI hn)
theorem xM{Q:BE->BF->Prop}(hh:A.handled=none)(ir:IsRange s.heap r 0 (n:Int) 1 t u v)(hn:n<=10000)
  (q:∀ (h':BI) (tk:Nat) (acc:Array BE),(∀b o,s.heap.get? b=some o->h'.get? b=some o)->ItemsOf (λi v=>∃t,v=.int (0+i*1) t) acc n->Q (.ref h'.objs.size) {s with heap:=h'.push {cls:=.type "tuple",data:=.seq acc},toks:=tk}):AK (AH prog w) A (call (.type "tuple") [.ref r]) Q E s:=
 callType_new F.called_tuple (by decide) (F.typeCall_tuple_1 _) (F.newCall_tuple_1 _) (λobj=>F.args_object_init_2 obj _) F.entry_tuple_new (yZ r n t u v hn) ⟨hh,ir,λh' tk acc k1 k2=>⟨⟨_,bK _ rfl,rfl⟩,q h' tk acc k1 k2⟩⟩
theorem nZ{p p2 q2:Pos}(hg:Gl X "tuple")(hm:X.mg "tuple"=none)(hg2:Gl X "range")(hm2:X.mg "range"=none)(ha:PEd X sd e (.val<|.int (n:Int)))(h1:n<=10000)
  (hc:X.calm=true:=by rfl) (hst:AC [e] X.env=(false,eval e X.env)::AC [] X.env:=by rfl) (hst2:AC [.Call (.Name "range" p2) [e] [] q2] X.env=(false,eval (.Call (.Name "range" p2) [e] [] q2) X.env)::AC [] X.env:=by rfl):
  PEd X sd (.Call (.Name "tuple" p) [.Call (.Name "range" p2) [e] [] q2] [] pos) (.val<|.tup (cD<|bM n)):=.mk λσ F H S pins s I=>by
 refine Ad (oO I hg hm PyProof.Rows.boot_tuple<|PyProof.Rows.callWith_type1 ?_ hst2 rfl);rw[hst2];refine Calls.spliced_cons (Ad<|oO I hg2 hm2 boot_range ?_);refine PyProof.Rows.callWith_type1 (thn ((dP (te:=wE X e) eY pa_nil hst) q2 pins s σ H (λus H1=>∃v F1,us=[v]/\StF X.K X.B₀ F1 H1 σ sd/\Same F F1/\ResOk X.K F1 H1 sd (.val<|.int (n:Int)) v) I<|(ha σ F H S).imp λv H1 ⟨F1,S1,s1,q1⟩=>⟨v,F1,rfl,S1,s1,q1⟩) λus s1 hus=> ?_) hst rfl;obtain⟨ws,H1,I1,rv,v,F1,rfl,S1,sF,q1⟩:=hus;obtain⟨u,rfl,ru⟩:=oE rv;simp only[ResOk,Rep] at q1;subst q1;obtain⟨t,rfl⟩:=ru;refine call_range_1<|Calls.spliced_nil ?_;refine xM (I1.ok.hd hc) (IsRange.new ..) h1 λh' tk acc kp it=> ?_
 have kp2:∀b o,s1.heap.get? b=some o->h'.get? b=some o:=λb o g=>kp b o<|aJ _ g
 have le:s1.heap.objs.size<=h'.objs.size:=dN<|aR (kp s1.heap.objs.size _<|bK _ rfl);have hD:H1 h'.objs.size=none:=I1.hok.fresh le;have ln:acc.toList.length=n:=by rw[bZ];exact it.1
 have vl:Vals ((bM n).map λ(k:Nat)=>V.int (k:Int)) acc.toList:=by
  have g:∀ (l:List BE) (f:Nat->Int),(∀ (j:Nat) (v:BE),l[j]? =some v->∃t,v=.int (f j) t)->Vals ((bM l.length).map λ(k:Nat)=>V.int<|f k) l:=λl=>by
   induction l with
   |nil=>intro f _;exact .nil
   |cons x l ih=>intro f h;obtain⟨t,e⟩:=h 0 x rfl;rw[bU,List.range_succ_eq_map,bA,bB];exact .cons ⟨t,e⟩ (ih (λk=>f<|k+1) λj v hv=>h (j+1) v<|by simpa using hv)
  have:=g acc.toList (λk=>(k:Int)) λj v hv=>by obtain⟨t,e⟩:=it.2 j v (by rw[<-dG];exact hv);exact⟨t,by rw[e];congr 1;omega⟩
  rw[ln] at this;exact this
 have I3:Inv X pins σ (upd H1 h'.objs.size (.tup<|(bM n).map λ(k:Nat)=>V.int (k:Int))) {s1 with heap:=h'.push {cls:=.type "tuple",data:=.seq acc},toks:=tk}:=
  I1.laid (λb o g=>aJ _<|kp2 b o g) le ⟨by rw[aA,fN];exact dN<|fI h1,acc.toList,vl,by simpa using IsTupD.new h' acc⟩
 obtain⟨S4,s4⟩:=S1.lay (o:=.tup<|(bM n).map λ(k:Nat)=>V.int (k:Int)) hD trivial;refine⟨.ref h'.objs.size,_,I3,rfl,_,S4,sF.trans s4, ?_⟩;simp only[ResOk,Rep];refine⟨_,_,rfl,bV, ?_⟩
 have gg:∀ks:List Nat,RepL X.K (upd F1 h'.objs.size (.tup<|(bM n).map λ(k:Nat)=>V.int (k:Int))) (ks.map λ(k:Nat)=>D.int (k:Int)) (ks.map λ(k:Nat)=>V.int (k:Int)):=λks=>by
  induction ks with
  |nil=>exact .nil
  |cons k ks ih=>exact .cons (by simp only[Rep]) ih
 exact gg _
noncomputable def mx1(c:Int)(k:Nat):Int:=(c%2147483647+69621*(k:Int)+7919)*48271%2147483647
noncomputable def mx2(c:Int)(k:Nat):Int:=mx1 c k*mx1 c k%2147483629
noncomputable def mxS(c:Int)(k:Nat):Int:=if c%2=0 then c / ((2^(8*k+1):Nat):Int) else(mx2 c k*mx2 c k+16807*(k:Int))%2147483587
def CMx:List D->R->Prop:=λds r=>∃ (c:Int) (k:Nat),ds=[.int c,.int (k:Int)]/\k<=400/\r=.val (.int<|mxS c k)
def aKK:List D->R->Prop:=λds r=>∃p q ws,pZ p q/\Fil p ws/\ds=[cK p,sqD q,bJ ws]/\r=.val (.int<|nwQ p q ws)
def aHG:List D->R->Prop:=λds r=>∃p q ws,pZ p q/\Fil p ws/\ds=[cK p,sqD q,bJ ws]/\r=.val (bJ<|onQ p q ws)
noncomputable def drQ(p:Int×Int)(c:Int):SQ:=((mxS c 1%10).toNat,mxS c 2%p.2,mxS c 4%p.2,mxS c 3%((2^p.1.toNat:Nat):Int))
def aLo:List D->R->Prop:=λds r=>∃p c,p∈bO/\ds=[cK p,.int c]/\r=.val (sqD<|drQ p c)
theorem aME(hp:p∈bO)(c:Int):pZ p (drQ p c):=by
 obtain⟨h1,h2,h3,h4,h5⟩:=vT p hp;have p20:(0:Int)<p.2:=by omega
 have m0:=pw0 p.1.toNat;have d1:=dO (mxS c 1) (show(0:Int)<10 by decide);exact⟨hp,by show(mxS c 1%10).toNat<10;omega,⟨eW _<|lM p20,dO _ p20⟩,⟨eW _<|lM p20,dO _ p20⟩,⟨eW _<|lM m0,dO _ m0⟩⟩
theorem oD{α:Type}{f:α->D}{L:List α}{t:Nat}{d:D}(h:(L.map f)[t]? =some d):∃x,L[t]? =some x/\d=f x/\L.take (t+1)=L.take t++[x]:=by rw[aS] at h;obtain⟨x,h1,h2⟩:=eE.mp h;exact⟨x,h1,h2.symm,by rw[eM,h1];rfl⟩
theorem aJq{α:Type}{L:List α}(nd:L.Nodup){t:Nat}{x:α}(h:L[t]? =some x):x∉L.take t:=λz=>by
 obtain⟨i,hi,e⟩:=cI z;have il:i<t:=by rw[cH] at hi;omega
 rw[tO] at e;obtain⟨t1,e2⟩:=aD.mp h;have:=(dR nd).mp<|e.trans e2.symm;omega
theorem aEL(hp:p∈bO):(bQ p).Nodup:=by
 have e:(bQ p).map (sL p)=bM (bQ p).length:=by
  refine nN (by simp) λi h1 h2=> ?_
  have hi:i<(bQ p).length:=by simpa using h1
  rw[cJ,aGA];have:=aCK hp hi;simpa[cB,hi] using this
 have nd:((bQ p).map<|sL p).Nodup:=by rw[e];exact aKh
 exact List.Pairwise.of_map _ (λa b h z=>h<|by rw[z]) nd
noncomputable def inK(ws:List Int):List Key:=ws.map λ(i:Int)=>(Sum.inl i:Key)
theorem aIj(ws:List Int):tD (inK ws)=bJ ws:=by unfold tD inK bJ;rw[bB];rfl
theorem zH:∀ {a b:List Int},inK a=inK b->a=b
 |[],[],_=>rfl
 |[],_::_,h=>by cases h
 |_::_,[],h=>by cases h
 |x::a,y::b,h=>by
  have h:(Sum.inl x:Key)::inK a=(Sum.inl y:Key)::inK b:=h;injection h with h1 h2
  rw[zH h2,Sum.inl.inj h1]
theorem tK:∀ {a b:List (List Int)},a.map inK=b.map inK->a=b
 |[],[],_=>rfl
 |[],_::_,h=>by cases h
 |_::_,[],h=>by cases h
 |x::a,y::b,h=>by
  rw[bA,bA] at h;injection h with h1 h2
  rw[tK h2,zH h1]
noncomputable def mgD(P:AF)(w:AM)(K:aB)(p:Int×Int)(s:SK):D:=gD (hkT P w) K ((bQ p).map inK) ((bQ p).map λws=>bJ<|onQ p s.1 ws)
def aOz(P:AF)(w:AM)(K:aB):List D->R->Prop:=λds r=>∃p L,p∈bO/\StkOk p L/\ds=[cK p,.lst<|L.map skD]/\r=.own (L.map<|mgD P w K p)
noncomputable def wM(L:List SK)(q:SQ):Bool:=(L.map λs=>sqD s.1).any λz=>deq z<|sqD q
theorem aIq{q:SQ}(h:wM L q=false):sqD q∉L.map λs=>sqD s.1:=λhm=>by
 unfold wM at h;have:=aHK.mp h _ hm
 exact this (oB _ (by
  show pl (iW _ _ _ _)=true;unfold iW
  split
  ·rfl
  ·split<;>rfl))
namespace S45
section
variable {T:Type}[DecidableEq T]{n:Nat}{pr:Nat->Int}{beh:Nat->T->T}{t0:T}
theorem put_len(t:Int)(row:List Nat)(tab:T)(ly:Lay T):∀ (m:Nat) (j:Int),(put pr beh t row tab m ly j).length<=(ly j).length+m
 |0,j=>aP _
 |m+1,j=>by
  have ih:=put_len t row tab ly m j;show(if j=t+pr m then put pr beh t row tab m ly j++[(row++[m],beh m tab)] else put pr beh t row tab m ly j).length<=_
  split
  ·rw[aN];show _+1<=_;omega
  ·omega
def Bd(n:Nat)(s:List (Ent T)×Lay T):Prop:=∀j,(s.2 j).length<=1+n*s.1.length
theorem aML{t:Int}{s:List (Ent T)×Lay T}(e:List Nat×T)(h:Bd n s):Bd n (one n pr beh t s e):=by
 unfold one
 split
 ·intro j;have:=put_len (pr:=pr) (beh:=beh) t e.1 e.2 s.2 n j;have:=h j;show(put pr beh t e.1 e.2 n s.2 j).length<=1+n*(s.1++[_]).length;rw[aN];show _<=1+n*(s.1.length+1);rw[Nat.mul_succ];omega
 ·exact h
theorem fold_bd{t:Int}:∀ {rest:List (List Nat×T)}{s:List (Ent T)×Lay T},Bd n s->Bd n (rest.foldl (one n pr beh t) s)
 |[],_,h=>h
 |e::rest,s,h=>fold_bd (rest:=rest) (s:=one n pr beh t s e)<|aML e h
theorem run_bd:∀t:Nat,Bd n (run n pr beh t0 t)
 |0=>λj=>by
  show(if j=0 then[(([]:List Nat),t0)] else[]).length<=_
  split
  ·exact aKy _ _
  ·exact bP _
 |t+1=>fold_bd<|run_bd t
theorem Ok.take(hp:∀k,k<n->1<=pr k){t:Int}(ht:0<=t):∀ (m:Nat) {rest:List (List Nat×T)}{s:List (Ent T)×Lay T},Ok n pr beh t0 t rest s->Ok n pr beh t0 t (rest.drop m) ((rest.take m).foldl (one n pr beh t) s)
 |0,_,_,o=>o
 |_+1,[],_,o=>o
 |m+1,e::rest,s,o=>Ok.take hp ht m (rest:=rest) (s:=one n pr beh t s e)<|o.step hp ht
theorem len_pr:∀ (row:List Nat),(∀k∈row,1<=pr k)->(row.length:Int)<=prQ pr row
 |[],_=>mL _
 |k::row,h=>by
  have:=len_pr row λj hj=>h j<|aF _ hj
  have h1:=h k aG;show((row.length+1:Nat):Int)<=(pr k::row.map pr).sum;rw[aNj];have:prQ pr row=(row.map pr).sum:=rfl;omega
end
end S45
noncomputable abbrev aOC:=List Bk×S45.Lay (List<|List Int)
noncomputable def tbK(t:List (List Int)):List (List Key):=t.map inK
theorem aNK(t:List (List Int)):D.tup ((tbK t).map tD)=.tup (t.map bJ):=by
 unfold tbK;rw[bB];congr 1;refine bW λws _=> ?_
 exact aIj ws
noncomputable def ksE(B:List Bk):List (List<|List Key):=B.map λe=>tbK e.2.2
noncomputable def iC(p:Int×Int)(L:List SK)(t:Nat):aOC:=S45.run L.length (prK L) (fQ p L) (bQ p) t
theorem StkOk.pr(S:StkOk p L):∀k,k<L.length->1<=prK L k:=λk hk=>(S.st _<|DL.getD_mem (d:=(AN:SK)) hk).2.1
theorem aBq(hp:p∈bO)(S:StkOk p L){row:List Nat}(h:fY L row):∀ws∈S45.tabQ (fQ p L) (bQ p) row,ws∈bQ p:=λws hw=>by obtain⟨q1,q2⟩:=rD hp (λs hs=>(S.st s hs).1) h;rw[<-q2] at hw;obtain⟨i,hi,rfl⟩:=aQ.mp hw;exact DL.getD_mem<|q1.2 i hi
theorem aEa(hp:p∈bO)(S:StkOk p L){row:List Nat}(h:fY L row):(S45.tabQ (fQ p L) (bQ p) row).length<=64:=by obtain⟨q1,q2⟩:=rD hp (λs hs=>(S.st s hs).1) h;rw[<-q2];unfold iH;rw[aA,q1.1];exact jB hp
theorem aMC(hp:p∈bO)(S:StkOk p L):BkOk p L 40 (iC p L 41).1:=by
 have o:=S45.ok_end (beh:=fQ p L) (t0:=bQ p) S.pr 40;refine⟨cG o.le<|by decide,λe he=> ?_,o.nd⟩;obtain⟨h1,h2,h3,h4,h5⟩:=o.ent e he;refine⟨h3,h2,h4, ?_,h5⟩;have:=S45.len_pr (pr:=prK L) e.2.1 λk hk=>S.pr k<|h4 k hk
 have h2:e.1<=40:=h2;omega
end DL
namespace L2
open PySem PySem.Spec PyProof.Rows
end L2
namespace DL
open PySem PySem.Spec PyProof.Rows L2
variable {p:Int×Int}{L:List SK}{b:Int}{B C:List Bk}
noncomputable def wD(p:Int×Int)(L:List SK)(b:Int)(B:List Bk):Bool:=(B.any λe=>decide<|e.2.1=[])&&aGD p L b B
theorem aOo(hp:p∈bO)(S:StkOk p L)(O:BkOk p L b B)(h:¬ S45.HoldsP L.length (prK L) (fQ p L) b B):wD p L b B=false:=iN.mpr λz=>h<|(aEQ hp S O).mp z
theorem aJe(hp:p∈bO)(S:StkOk p L){m:Nat}(hm:m<(iC p L 41).1.length):wD p L 40 ((iC p L 41).1.take m)=false:=
 aOo hp S ((aMC hp S).take m) (S45.holds_pre (t:=40) (S45.ok_end (beh:=fQ p L) (t0:=bQ p) S.pr 40) S.pr hm)
section
variable {prog:AF}{w:AM}{K:Type}[DecidableEq K]{knd:HeapKind prog w K}{A:BH}{E:BE->BF->Prop}{s:BF}
theorem aAa{d a:BG}{xs:List (K×BG×BE)}{k:K}{j:Nat}{p:BG×BE}{Q:Option DictEntry->BF->Prop}(hu:knd.room A)(hkey:knd.is s.heap k a)(hm:s.heap.DictOfH knd d xs)(hj:xs[j]? =some (k,p))
  (hQ:∀h',h'.DictOfH knd d (xs.eraseIdx j)->Heap.SameBut d s.heap h'->Q (some<|entryOfKey knd (k,p)) {s with heap:=h',toks:=s.toks+knd.draws k})
  (hsz:xs.length<=AL):
  AK (AH prog w) A (Builtin.Dict.takeOut d<|.ref a) Q E s:=by
 obtain⟨o,es,ep,ho,hc,hd,he,his,hn⟩:=hm;have hes:es.size<=AL:=by have e:=Av he;omega
 unfold Builtin.Dict.takeOut
 try with_reducible refine Ah ?_
 refine AA<|knd.pyHash hu hkey ?_;refine AA<|wpAny_dictFind_heap (s:={s with toks:=s.toks+knd.draws k}) hu hkey ho hd he his hn (λno=>absurd hj<|no j p) λj' p' hj'=> ?_
 have ej:j'=j:=by obtain⟨i1,e1⟩:=aD.mp hj';obtain⟨i2,e2⟩:=aD.mp hj;refine(dR (i:=j') (j:=j) (h₀:=by rw[aA];exact i1) (h₁:=by rw[aA];exact i2) hn).mp ?_;rw[cJ,cJ,e1,e2]
 subst ej;rw[hj] at hj';cases hj';refine AA<|Ak (s:={s with toks:=s.toks+knd.draws k}) ho hd ?_;rw[entry_at he j',hj];refine AA (wpAny_updateDictKeys (hz:=hes) (s:={s with toks:=s.toks+knd.draws k}) ho hd<|AB (hQ _ ⟨_,_,ep+1,gC _ ho (Obj.isFreed_of_dict<|Obj.data_mapDictKeys hd _),hc.mapDictKeys _,Obj.data_mapDictKeys hd _, ?_,λx hx=> ?_, ?_⟩<|Heap.SameBut.update ..))
 ·have:(es.eraseIdxIfInBounds j').toList=es.toList.eraseIdx j':=by obtain⟨l⟩:=es;simp
  rw[this,he,sM]
 ·exact knd.keeps (his x<|jE hx) ho hd<|Heap.SameBut.update ..
 ·exact hn.sublist<|(eZ _ _).map _
end
section
variable {prog:AF}{w:AM}{K:Type}[DecidableEq K](knd:HeapKind prog w K)(d a:BG)
theorem aBP:
  MeetsIn prog w (Builtin.«dict.pop» ⟨[.ref d, .ref a],[]⟩) (fun A R s=>knd.room A.in1∧∃k xs j p,knd.is s.heap k a∧s.heap.DictOfH knd d xs∧xs.length≤AL∧xs[j]? =some (k,p)∧
   ∀h',h'.DictOfH knd d (xs.eraseIdx j)->Heap.SameBut d s.heap h'->R (.ok (.ret p.2)) {s with heap:=h',toks:=s.toks+knd.draws k}):=
 .of_wp λA R s ⟨hu,k,xs,j,p,hkey,hm,hz,hj,h⟩=>by
  unfold Builtin.«dict.pop»;refine AA ?_;unfold Builtin.Dict.keyAndDefault;refine AA<|Ax hm.typeIs ?_;show AK _ _ (pure (d,Value.ref a,none)) _ _ s;refine AB ?_;have hp:(keyPart<|Value.ref a).isSome=false:=rfl;simp only[hp,bY,if_false];obtain⟨o,es,ep,ho,hc,hd,he,his,hn⟩:=id hm;refine AA<|Ak ho hd (AA<|AB ?_)
  have ne:es.isEmpty=false:=by have e:=Av he;have:=(aD.mp hj).1;rw[Array.isEmpty_eq_false_iff_exists_mem];exact⟨es[0],Array.getElem_mem<|by omega⟩
  simp only[ne,bY,if_false];refine AA<|aAa hu hkey hm hj (λh' hm' hs'=> ?_) hz;simp only[Option.isNone_some,bY,if_false];exact AA (wpAny_letGo<|AB ⟨_,rfl,h h' hm' hs'⟩)
end
variable {X:Cx}{pins:List (BG×BJ)}{σ:St}{H:Hp}{s:BF}{sts:List BK}
noncomputable abbrev reB(X:Cx)(B:Hp)(h:∀b o,X.H₀ b=some o->zX o->B b=some o):Cx:={X with B₀:=B,hB:=h}
theorem aIB{B:Hp}{hb:∀b o,X.H₀ b=some o->zX o->B b=some o}(I:Inv X pins σ H s):Inv (reB X B hb) pins σ H s:=
 ⟨⟨I.ok.mod,I.ok.kind,I.ok.glob,I.ok.blt,I.ok.above,I.ok.inj,I.ok.has,I.ok.cab,I.ok.hd,I.ok.frames,I.ok.stk,I.ok.exf,I.ok.bs,I.ok.bsz,I.ok.noex,I.ok.exfs,I.ok.funs,I.ok.frf⟩,I.os,I.bare,I.base,I.loc,I.cell,I.free,I.freeC,I.pin,I.hok,I.len⟩
theorem uI{B:Hp}{hb:∀b o,X.H₀ b=some o->zX o->B b=some o}(I:Inv (reB X B hb) pins σ H s):Inv X pins σ H s:=
 ⟨⟨I.ok.mod,I.ok.kind,I.ok.glob,I.ok.blt,I.ok.above,I.ok.inj,I.ok.has,I.ok.cab,I.ok.hd,I.ok.frames,I.ok.stk,I.ok.exf,I.ok.bs,I.ok.bsz,I.ok.noex,I.ok.exfs,I.ok.funs,I.ok.frf⟩,I.os,I.bare,I.base,I.loc,I.cell,I.free,I.freeC,I.pin,I.hok,I.len⟩
theorem aIr{B:Hp}{hb:∀b o,X.H₀ b=some o->zX o->B b=some o}{D:tT}(h:wSs (reB X B hb) sts D σ H):wSs X sts D σ H:=λpins s I=>thn (h pins s<|aIB I) λf s' q=>by
 cases f with
 |next=>obtain⟨σ',H',I',q⟩:=q;exact⟨σ',H',uI I',q⟩
 |brk=>obtain⟨σ',H',I',q⟩:=q;exact⟨σ',H',uI I',q⟩
 |cont=>obtain⟨σ',H',I',q⟩:=q;exact⟨σ',H',uI I',q⟩
 |ret u=>obtain⟨v,σ',H',I',r,q⟩:=q;exact⟨v,σ',H',uI I',r,q⟩
structure Lent(K:aB) where
 α:Type
 ad:α->BG
 own:α->List BG
 G:α->V->Hp->Hp->Prop
 hv:∀ {a:α}{v:V}{F H:Hp},G a v F H->v=.ref (ad a)
noncomputable def Lent.sl{K:aB}(Z:Lent K)(a:Z.α):Slot:=.ox (Z.own a)<|Z.G a
variable {K:aB}(Z:Lent K)
noncomputable def spL(n:Nat)(C:Z.α->List D->(Z.α->Prop)->Prop):Sp:=λvs H Q _=>vs.length=n/\∃ (v:V) (us:List V) (F:Hp) (a:Z.α) (ds:List D) (post:Z.α->Prop),vs=v::us/\Same F H/\(∀b,b∉Z.own a->H b=F b)/\Smp H/\gQ K F H (Z.sl a) (some v)/\(Z.own a).Nodup/\RepL K F ds us/\C a ds post/\(∀a',post a'->Z.ad a'=Z.ad a)/\
 ∀H',(∃F' a',post a'/\Same F F'/\Same F' H'/\Smp H'/\gQ K F' H' (Z.sl a') (some v)/\(Z.own a').Nodup)->Q .non H'
noncomputable def spM(n:Nat)(C:Z.α->List D->(Z.α->Prop)->Prop):Sp:=λvs H Q _=>vs.length=n/\Smp H/\∃ (v:V) (us:List V) (F:Hp) (a:Z.α) (ds:List D) (post:Z.α->Prop),vs=v::us/\Same F H/\gQ K F H (Z.sl a) (some v)/\(Z.own a).Nodup/\RepL K F ds us/\C a ds post/\(∀a',post a'->Z.ad a'=Z.ad a)/\
 ∀F' H' a',post a'->Same F F'->Same F' H'->Smp H'->gQ K F' H' (Z.sl a') (some v)->(Z.own a').Nodup->(∀b o,b∉Z.own a->H b=some o->H' b=some o)->(∀b o,b∉Z.own a->H b=some o->F b=none->F' b=none/\b∉Z.own a')->Q .non H'
open Classical in
noncomputable def wQ(as:List BG)(F H:Hp):Hp:=λb=>if b∈as then H b else F b
open Classical in
noncomputable def lD(as:List BG)(F H:Hp):Hp:=λb=>if b∈as then F b else rO F H b
theorem mB{as:List BG}{F:Hp}:Same F (lD as F H):=λb o e=>by
 unfold lD
 by_cases h:b∈as
 ·rw[if_pos h];exact e
 ·rw[if_neg h];exact rP _ _ e
theorem qT{as:List BG}{F:Hp}{b:BG}(hb:b∉as)(h:F b=none):lD as F H b=H b:=by unfold lD;rw[if_neg hb];exact rK h
theorem zJ{as:List BG}{F:Hp}{b:BG}(hb:b∈as):wQ as F H b=H b:=by unfold wQ;rw[if_pos hb]
theorem rR{as:List BG}{F:Hp}{b:BG}(hb:b∉as):wQ as F H b=F b:=by unfold wQ;rw[if_neg hb]
theorem FnOk.framedL{P:AF}{w:AM}{Z:Lent K}{mg:Str->Option BE}{base:BI}{k n:Nat}{f:BG}{fd:Aa}{ps:List Str}{C:Z.α->List D->(Z.α->Prop)->Prop}(G:FnOk P w K mg base CX0 k f fd ps (spL Z n C)):FnOk P w K mg base CX0 k f fd ps (spM Z n C):=by
 have res:∀ {F H:Hp}{a:Z.α}{v:V},Same F H->gQ K F H (Z.sl a) (some v)->Same F (wQ (Z.own a) F H)/\Same (wQ (Z.own a) F H) H/\gQ K F (wQ (Z.own a) F H) (Z.sl a) (some v):=λ{F H a v} sF so=>by
  obtain⟨v',ev,ow,gg⟩:=so;refine⟨λb o e=> ?_,λb o e=> ?_,v',ev,λb hb=>⟨(ow b hb).1, ?_⟩,λF' H' s k=>gg F' H' s λb hb ob e=>k b hb ob<|by rw[zJ hb];exact e⟩
  ·by_cases h:b∈Z.own a
   ·rw[(ow b h).1] at e;cases e
   ·rw[rR h];exact e
  ·by_cases h:b∈Z.own a
   ·rw[zJ h] at e;exact e
   ·rw[rR h] at e;exact sF b o e
  ·rw[zJ hb];exact(ow b hb).2
 refine⟨λvs H Q E h=> ?_,λA outer s H args us vs Q E hr e0 hb rv h=> ?_⟩
 ·obtain⟨hl,sm,v,us,F,a,ds,post,e,sF,so,nd,rl,c,hp,_⟩:=h;obtain⟨q1,q2,q3⟩:=res sF so;exact G.len vs (wQ (Z.own a) F H) (λ_ _=>True) E ⟨hl,v,us,F,a,ds,post,e,q1,λb hb=>rR hb,sm.sub q2,q3,nd,rl,c,hp,λ_ _=>trivial⟩
 ·obtain⟨hl,sm,v,us',F,a,ds,post,ev,sF,so,nd,rl,c,hp,q⟩:=h;obtain⟨q1,sU,q3⟩:=res sF so;obtain⟨_,_,ow,_⟩:=id so;have nU:∀b,b∉Z.own a->F b=none->wQ (Z.own a) F H b=none:=λb hbl n=>by rw[rR hbl];exact n
  have e1:aKo P w K mg base A outer s (wQ (Z.own a) F H):=⟨e0.frames,e0.mod,λb o e=>⟨(e0.bs b o e).1,sU.free (e0.bs b o e).2⟩,e0.bsz,e0.funs,λb hb=>sU.free<|e0.frf b hb,λb o e=>(e0.hok b o<|sU b o e).smp (sm b o<|sU b o e),e0.bare⟩;refine BA (G.run A outer s (wQ (Z.own a) F H) args us vs (λv3 F3=>v3=.non/\∃F' a',post a'/\Same F F'/\Same F' F3/\Smp F3/\gQ K F' F3 (Z.sl a') (some v)/\(Z.own a').Nodup) E hr e1 hb rv ⟨hl,v,us',F,a,ds,post,ev,q1,λb hb=>rR hb,sm.sub sU,q3,nd,rl,c,hp,λH' z=>⟨rfl,z⟩⟩) λrr s' hrr=> ?_
  cases rr with
  |error e=>exact hrr
  |ok flw=>
   cases flw with
   |ret u=>
    obtain⟨v3,F3,ho,ha,un,hk,ru,e3,F2,a',pa,s1,s2,sm3,so3,nd3⟩:=hrr;subst e3
    have keepF:∀b o,b∉Z.own a->H b=some o->F b=none->F3 b=none:=λb o hbl e n=>by
     have lt:=e0.hok.lt e;cases g:s.heap.get? b with
     |none=>
      exfalso;have ob:=e0.hok b o e;have z:=sm b o e;cases o with
      |lst xs=>obtain⟨_,_,_,_,g'⟩:=ob;rw[g] at g';cases g'
      |tup xs=>obtain⟨_,_,_,oo,g',_⟩:=ob;rw[g] at g';cases g'
      |dK kvs=>obtain⟨_,_,_,_,oo,_,_,g',_⟩:=ob;rw[g] at g';cases g'
      |frz o2 u2=>obtain⟨g',_⟩:=ob;rw[g] at g';cases g'
      |ext φ=>obtain⟨_,⟨oo,g'⟩,_⟩:=ob;rw[g] at g';cases g'
      |_=>exact z
     |some ob=>exact un.free b ob g (nU b hbl n)<|by simp
    have keepO:∀b o,b∉Z.own a->H b=some o->F b=none->∀ob,s.heap.get? b=some ob->s'.heap.get? b=some ob:=λb o hbl e n ob g=>un.keep b ob g (nU b hbl n) (λhb=>by have:=e0.frf b hb;rw[e] at this;cases this)<|by simp
    have sH:∀b o,b∉Z.own a->H b=some o->lD (Z.own a) F3 H b=some o:=λb o hbl e=>by
     cases g:F b with
     |none=>rw[qT hbl<|keepF b o hbl e g];exact e
     |some o'=>have:=sF b o' g;rw[e] at this;cases this;exact mB _ _ (s2 _ _<|s1 _ _ g)
    have nl:∀ {b:BG}{o:HO},H b=some o->¬ Wr b o->b∉Z.own a:=λe no z=>by obtain⟨_,ob,g,wr⟩:=ow _ z;rw[e] at g;cases g;exact no wr
    have nn:∀ {b:BG},H b=none->b∉Z.own a:=λe z=>by obtain⟨_,ob,g,_⟩:=ow _ z;rw[e] at g;cases g
    have smM:Smp (lD (Z.own a) F3 H):=λb o e=>by
     by_cases hbl:b∈Z.own a
     ·unfold lD at e;rw[if_pos hbl] at e;exact sm3 _ o e
     ·cases g:F3 b with
      |some o'=>have:=mB (as:=Z.own a) (H:=H) b o' g;rw[e] at this;cases this;exact sm3 b o g
      |none=>rw[qT hbl g] at e;exact sm b o e
    have soM:gQ K F2 (lD (Z.own a) F3 H) (Z.sl a') (some v):=by obtain⟨v',ev,ow3,gg⟩:=so3;refine⟨v',ev,λb hb=>⟨(ow3 b hb).1, ?_⟩,λF' H' s k=>gg F' H' s λb hb ob e=>k b hb ob<|mB _ _ e⟩;obtain⟨_,ob,g,wr⟩:=ow3 b hb;exact⟨ob,mB _ _ g,wr⟩
    refine⟨.non,lD (Z.own a) F3 H,ho,ha,⟨λb o g n hb hx=>un.keep b o g (sU.free n) hb hx,λb o g n hb hx=>un.slot b o g (sU.free n) hb hx,λb o g n hx=> ?_,un.there,λb xs e=>sH _ _ (nl e λz=>z) e,λb o u e=>sH _ _ (nl e λz=>z) e,λb ps e=>⟨#[],by rw[sH _ _ (nl e λz=>z) e];simp⟩⟩,λb o e=> ?_,ru, ?_⟩
    ·rw[qT (nn n)<|un.free b o g (sU.free n) hx];exact n
    ·have z:=smM b o e
     by_cases hbl:b∈Z.own a
     ·have e':F3 b=some o:=by unfold lD at e;rw[if_pos hbl] at e;exact e
      exact(hk b o e').smp z
     ·cases g:F3 b with
      |some o'=>have:=mB (as:=Z.own a) (H:=H) b o' g;rw[e] at this;cases this;exact(hk b o g).smp z
      |none=>
       rw[qT hbl g] at e
       have n:F b=none:=by
        cases g2:F b with
        |none=>rfl
        |some o2=>rw[s2 _ _<|s1 _ _ g2] at g;cases g
       have st:=(e0.hok b o e).smp (F:=λ_=>none) z
       have:ObjOk P w (fun _=>none) s'.heap b o:=st.stay (fun b2 u hb2 gg=>by
        rcases hb2 with rfl|hb2
        ·exact keepO _ o hbl e n u gg
        ·cases hb2) (λb2 hb2=>nomatch hb2) λb2 xs hb2=>nomatch hb2
       exact this.smp z
    ·refine q F2 (lD (Z.own a) F3 H) a' pa s1 (s2.trans mB) smM soM nd3 sH λb o hbl e n=> ?_
     have n3:=keepF b o hbl e n;refine⟨s2.free n3,λhb=> ?_⟩;obtain⟨_,_,ow3,_⟩:=so3;obtain⟨_,ob,g,_⟩:=ow3 b hb;rw[n3] at g;cases g
   |_=>exact hrr
theorem pS:∀ {sd:List Slot}{i:Nat}{z:Slot},(cA sd).Nodup->sd[i]? =some z->(gO z).Nodup
 |[],_,_,_,e=>by simp at e
 |y::zs,0,z,h,e=>by
  have:y=z:=by simpa using e
  subst this;exact(bE.mp (show(gO y++cA zs).Nodup from h)).1
 |y::zs,i+1,z,h,e=>pS (sd:=zs) (i:=i) (bE.mp (show(gO y++cA zs).Nodup from h)).2.1 (by simpa using e)
structure qW(P:AF)(w:AM)(K:aB)(Z:Lent K)(mg:Str->Option BE)(base:BI)(x:Str)(k n:Nat)(C:Z.α->List D->(Z.α->Prop)->Prop):Prop where
 ex:∃ (f:BG) (fd:Aa) (ps:List Str),mg x=some (.ref f)/\fG K (.ref f)=true/\Binds K fd ps []/\FnOk P w K mg base CX0 k f fd ps (spL Z n C)
noncomputable def yU{K:aB}(Z:Lent K)(n:Nat)(a:Z.α)(ds:List D):List Slot:=Z.sl a::(ds.map Slot.val++fJ (n-(ds.length+1)) .un)
theorem aJi{P:AF}{w:AM}{Z:Lent K}{mg:Str->Option BE}{base:BI}{x qual:Str}{st:BK}{f:BG}{fd:Aa}{N ps:List Str}{k:Nat}{C:Z.α->List D->(Z.α->Prop)->Prop}(F:Fun K x qual st f fd)(S:kA N ps (bD st))
  (hm:mg x=some (.ref f)) (hb:∀ (kV doc pm:BE) (an:Option BG) (cdv ct:BE) (us:List BE),us.length=ps.length->bindArgs (dU x qual (iA st) (eO st) (bD st) .none kV doc pm an cdv ct) ⟨us,[]⟩=pure (ps.zip us))
  (body:∀ (cdv:BE) (A:BH) (outer:List Env) (s:BF) (H:Hp) (E:XK) (B:Hp) (hB:∀b o,H b=some o→zX o→B b=some o),Room k (A.deeper (Ar qual (bD st) s.heap.objs.size f cdv))→∀a ds post,ds.length+1=ps.length→C a ds post→
   PSd (reB (jP CX0 P w K mg base N qual (bD st) f cdv A outer s H E).nox B hB) (yU Z N.length a ds) (eO st) {nx:=λsd'=>∃a',post a'/\sd'[0]? =some (Z.sl a'),rt:=λ_=>False})
  (hw:∀ (a:Z.α) (v:V) (F H:Hp) (b:BG) (o:HO),Z.G a v F H->b∈Z.own a->H b=some o->¬ zX o):qW P w K Z mg base x (k+1) ps.length C:=by
 refine⟨f,fd,ps,hm,F.kp,F.binds hb,F.ok S (λvs H Q E h=>h.1) λcdv A outer s H vs Q E hr h=> ?_⟩;obtain⟨hl,v,us,F0,a,ds,post,rfl,sF,hH,sm,so,nd,rl,c,hp,q⟩:=h;have hds:ds.length+1=ps.length:=by rw[<-rl.len];exact hl
 have hB:∀b o,H b=some o->zX o->F0 b=some o:=λb o e no=>by
  by_cases hbl:b∈Z.own a
  ·obtain⟨_,_,_,gg⟩:=so;exact absurd no<|hw a _ F0 H b o (gg F0 H (Same.refl _) λ_ _ _ e=>e) hbl e
  ·rw[<-hH b hbl];exact e
 refine⟨_,rV,aIr (B:=F0) (hb:=hB) ?_⟩;have hlen:N.length-(us.length+1)=N.length-(ds.length+1):=by rw[rl.len]
 have S0:StF K F0 F0 H (L2.start N (v::us)) (yU Z N.length a ds):=by
  refine⟨Same.refl _,sF,sm, ?_, ?_⟩
  ·unfold L2.start yU;show SlotsOk K F0 _ (_::_) (some v::(us.map some++fJ (N.length-(us.length+1)) none));rw[hlen];exact⟨_,_,rfl,so,nD (m:=0) rl⟩
  ·unfold yU;rw[pY,mV,cM];exact nd
 refine(body cdv A outer s _ E F0 hB hr a ds post hds c (L2.start N (v::us)) F0 _ S0).imp ?_ ?_ (λ_ _ ⟨_,_,_,_,z⟩=>z) λ_ _ ⟨_,_,_,_,z⟩=>z
 ·rintro σ' H' ⟨sd',F',S',s',a',pa,hs⟩;obtain⟨o,h1,so'⟩:=S'.slots.get hs;obtain⟨v',rfl,ow',gg⟩:=so';have e1:=Z.hv<|gg F' H' (Same.refl _) λ_ _ _ e=>e;obtain⟨v0,ev,_,g0⟩:=so;cases ev;have e0:=Z.hv<|g0 F0 H (Same.refl _) λ_ _ _ e=>e;have evv:v'=v:=by rw[e1,e0,hp a' pa]
  subst evv;refine q H' ⟨F',a',pa,S'.base,S'.sub,S'.smp,⟨v',rfl,ow',gg⟩, ?_⟩;have nd':=S'.nd;exact pS nd' hs
 ·rintro v' H' ⟨r',ro,e⟩;exact e.elim
variable {sd:List Slot}{c:Expr}{es:List Expr}{pos cp p p2:Pos}{ds:List D}{E:iJ}{k n:Nat}{f x:Str}
theorem aEx{Z:Lent X.K}{C:Z.α->List D->(Z.α->Prop)->Prop}{post:Z.α->Prop}{a:Z.α}(i:Nat)(hs:sd[i]? =some (Z.sl a))(hxi:PE X (.Name x p2) (jO i))(G:qW X.prog X.w X.K Z X.mg X.base f k n C)(hr:Room k X.A)(hg:Gl X f)(ha:PAd X sd es (ds.map R.val))(hc:C a ds post)(hp:∀a',post a'->Z.ad a'=Z.ad a)(hn:ds.length+1=n)(hE:∀a',post a'->E.nx (sd.set i<|Z.sl a'))
  (hdb:(f==("__debug__":Str))=false:=by decide) (he:AC (.Name x p2::es) X.env=(false,eval (.Name x p2) X.env)::AC es X.env:=by rfl) (hpl:(Af cp<|AC es X.env).any (·.1)=false:=by rfl)
  (hsw:AX (.Call (.Name f p) (.Name x p2::es) [] cp) none pos.line X.env=pure false:=by rfl):PSd1 X sd (.Expr (.Call (.Name f p) (.Name x p2::es) [] cp) pos) E:=.mk λσ F H S=>by
 obtain⟨fa,fd,ps,hm,hkp,bd,G⟩:=G.ex;obtain⟨o0,h1,v,h2,_⟩:=S.slots.get hs;refine(pE (aDk (FnOk.framedL G) hr hg hm hkp bd .nil aKX (dP hxi zT he) hdb he hpl) hsw).to ⟨v,by rw[h1,h2],(ha σ F H S).imp λus H1 ⟨F1,S1,s1,q1⟩=> ?_⟩;have rl:=q1.vals;obtain⟨o1,g1,so⟩:=S1.slots.get hs
 have eo:o1=some v:=by rw[h1,h2] at g1;exact(bS.inj g1).symm
 subst eo;refine⟨by rw[cM,bU,rl.len];exact hn,S1.smp,v,us,F1,a,ds,post,by rw[cM],S1.sub,so,pS S1.nd hs,rl,hc,hp,λF' H' a' pa s2 s3 sm so' nd kp kf=> ?_⟩;have S2:=S1.le<|gE sd i;have no:∀b,b∈cA (sd.set i .un)->b∉Z.own a:=λb hb z=>gX S1.nd hs (show b∈gO (Z.sl a) from z) hb
 have S3:StF X.K X.B₀ F' H' σ (sd.set i .un):=⟨fun b o e=>s2 _ _ (S1.base _ _ e),s3,sm,S2.slots.mono s2 fun b hb=>by
  obtain⟨n1,ob,e,_⟩:=S2.slots.owns hb
  exact⟨(kf b ob (no b hb) e n1).1,λxs e'=>kp b xs (no b hb) e'⟩,S2.nd⟩
 have S4:=S3.setT i so' nd λb hb hb2=>by obtain⟨n1,ob,e,_⟩:=S2.slots.owns hb2;exact(kf b ob (no b hb2) e n1).2 hb
 rw[iS,kE g1] at S4;exact⟨_,F',S4,s1.trans s2,hE a' pa⟩
theorem aEo{body:List BK}(W:Nat->List Slot->Prop)(h0:∃m sd0,Le sd sd0/\W m sd0)
  (hb:∀m sdm,W m sdm->∃t:Bool,PTd X sdm c t/\(t=false->E.nx sdm)/\(t=true->PSd X sdm body {E with nx:=λsd'=>∃m' sd2,m'<m/\Le sd' sd2/\W m' sd2,ct:=λsd'=>∃m' sd2,m'<m/\Le sd' sd2/\W m' sd2,bk:=E.nx}))
  (hp:PassesOwn (AH X.prog X.w) X.A X.env X.xe:=by exact PassesOwn.never):PSd1 X sd (.While c body [] pos) E:=.mk λσ F H S=>
 (aFw hp aHS rV).to (by
  obtain⟨m0,sd0,le0,q0⟩:=h0;refine⟨λm σ' H'=>∃sdm F',StF X.K X.B₀ F' H' σ' sdm/\Same F F'/\W m sdm,⟨m0,sd0,F,S.le le0,Same.refl _,q0⟩, ?_⟩;rintro m σ' H' ⟨sdm,F',S',s',qm⟩;obtain⟨t,ht,h1,h2⟩:=hb m sdm qm;refine(ht σ' F' H' S').imp λb H1 ⟨eb,F1,S1,s1⟩=> ?_
  subst eb;cases b with
  |false=>exact aGF ⟨sdm,F1,S1,s'.trans s1,h1 rfl⟩
  |true=>
   refine aGG ⟨λσ2 H2=>∃m' sd2 F2,m'<m/\StF X.K X.B₀ F2 H2 σ2 sd2/\Same F F2/\W m' sd2,λσ2 H2 ⟨m',sd2,F2,lt,S2,s2,w2⟩=>⟨m',lt,sd2,F2,S2,s2,w2⟩, ?_⟩;refine(h2 rfl σ' F1 H1 S1).imp ?_ ?_ ?_ ?_
   ·rintro σ4 H4 ⟨sd4,F4,S4,s4,m',sd5,lt,le,q5⟩;exact⟨m',sd5,F4,lt,S4.le le,(s'.trans s1).trans s4,q5⟩
   ·exact λv H4 q=>q
   ·rintro σ4 H4 ⟨sd4,F4,S4,s4,q⟩;exact⟨sd4,F4,S4,(s'.trans s1).trans s4,q⟩
   ·rintro σ4 H4 ⟨sd4,F4,S4,s4,m',sd5,lt,le,q5⟩
    exact⟨m',sd5,F4,lt,S4.le le,(s'.trans s1).trans s4,q5⟩)
theorem aAm{P:AF}{w:AM}{h h':BI}{cs:List BG}(x:HOk P w H h)(k:∀b u,b∉cs->h.get? b=some u->h'.get? b=some u)(hn:∀b∈cs,H b=none):HOk P w H h':=λa o e=>
 (x a o e).stay (fun b u hb q=>k b u (fun z=>by
  have n:=hn b z
  rcases hb with rfl|hb
  ·rw[e] at n;cases n
  ·rw[hb] at n
   cases n) q) (λ_ q=>q) λ_ _ q=>q
variable {prog:AF}{w:AM}{A:BH}{d I:BG}{od:BJ}{es:Array DictEntry}{ep:Nat}
theorem aMp(hh:A.handled=none)(c:od.data=.dict es ep)(ne:d≠I):Walks prog w A I [I,d] [I] es.size (λi v=>∃u,es[i]? =some u/\v=u.key) (λi h=>h.IsKeyIter I d i es.size ep/\h.get? d=some od) where
 sub:=λb hb=>aU.mpr (.inl<|aE.mp hb)
 frame:=λi h h' st k=>by obtain⟨⟨o,g,q⟩,g2⟩:=st;exact⟨⟨o,k I aG o g,q⟩,k d (by simp) od g2⟩
 item:=λi s Q E hi st q=>yA st.1 st.2 c hi λh' st' sb=>q _ h' s.toks ⟨es[i],by simp[hi],rfl⟩ ⟨st',(sb.2 d ne).trans st.2⟩ λb o hb g=>(sb.2 b λz=>hb<|by rw[z];exact bL _).trans g
 done:=λs Q E st q=>aBa hh st.1 st.2 c (aP _) λh' eb=>q h' s.toks λb o hb g=>eb b o (λz=>hb<|by rw[z];exact bL _) g
 self:=λi s Q E st q=>wpAny_pyIter_keyiter st.1 q
theorem srcD(sm:(d==AW)=false)(x:od.ExactDict)(c:od.data=.dict es ep):PySem.W.KdlSrc prog w "dict" d d es.size (λi v=>∃u,es[i]? =some u/\v=u.key) (λh=>h.get? d=some od) where
 type:=λs ok=>qV ok x
 there:=λh ok=>⟨aR ok,aR ok⟩
 keep:=λh h' ok k=>k d (.inl rfl) od ok
 notList:=by decide
 notTuple:=by decide
 hint:=λA E s Q ok q=>PySem.W.kdl_hint_dict (qV ok x) q
 iter:=λA s hh ok=>⟨_,_,λE Q q=>aBb sm ok x c q,aMp hh c (bN<|aR ok),⟨⟨_,bK _ rfl,rfl,rfl⟩,aJ _ ok⟩⟩
section
variable {prog:AF}{w:AM}{A:BH}{I:BG}{fp wr:List BG}{n:Nat}{P:Nat->BE->Prop}{St:Nat->BI->Prop}{J:BI->Prop}{bt:Nat->Nat->Bool}{R:Result->BF->Prop}{S:BG}
def aNn(prog:AF)(w:AM)(A:BH)(J:BI->Prop)(P:Nat->BE->Prop)(bt:Nat->Nat->Bool):Prop:=∀i k x y (t:BF) (Q:BE->BF->Prop) (E:BE->BF->Prop),J t.heap->P i x->P k y->Q (.bool<|bt i k) t->AK (AH prog w) A (richCompare .Lt x y) Q E t
def aIm(cs:List BG)(J:BI->Prop):Prop:=∀h h':BI,J h->(∀b o,b∉cs->h.get? b=some o->h'.get? b=some o)->J h'
noncomputable def two2(v:BE)(c:Nat):BJ:={cls:=.type "list",dict:=none,data:=.seq #[v,v] c,slots:= #[]}
theorem aDP(W:Walks prog w A.in1 I fp wr n P St)(ask:aNn prog w A.in1 J P bt)(stay:aIm (S::wr) J)(nS:S∉fp):∀ (k j:Nat) (s:BF) (v0:BE) (c:Nat),n=k+(j+1)->St (j+1) s.heap->P (Ac bt j) v0->J s.heap->s.heap.get? S=some (two2 v0 c)->
  (∀v h' tk,P (Ac bt<|n-1) v->(∀b o,b∉S::wr->s.heap.get? b=some o->h'.get? b=some o)->R (.ok<|.ret v) {s with heap:=h',toks:=tk})->codeAny (AH prog w) A (.builtin "min.loop" ⟨[.ref I,.none,.ref S],[]⟩) R s:=λk=>by
 have nW:S∉wr:=λz=>nS<|W.sub S z
 have nm:(toString "min"++toString ".loop":String)="min.loop":=by decide
 have upO:∀ {h:BI}{f:BJ->BJ}{b:BG}{o:BJ},b∉S::wr->h.get? b=some o->(h.update S f).get? b=some o:=λ{h f b o} hb g=>by rw[cO _ _ (λz=>hb<|by rw[<-z];exact aG)];exact g
 have upF:∀ {h:BI}{f:BJ->BJ}{i:Nat},St i h->St i (h.update S f):=λ{h f i} st=>W.frame _ _ _ st λb hb o g=>by rw[cO _ _ (show S≠b from λz=>nS<|by rw[z];exact hb)];exact g
 have sub1:∀ {b:BG},b∉S::wr->b∉wr:=λhb z=>hb<|aF _ z
 induction k with
 |zero=>
  intro j s v0 c en st p0 hJ hS fin;have ej:n=j+1:=by omega
  refine Aw F.entry_min_loop ?_;rw[Around.under_plainId F.plain_min_loop];refine AA (m:=seqItems?<|.ref S)<|wpAny_seqItems hS rfl ?_;refine AA (m:=tryCatch (pyNext<|.ref I) _) (wpAny_tryCatch<|W.done s _ _ (by rw[ej];exact st) λh1 tk k1=> ?_);refine AA (m:=updateSeq S λ_=> #[]) (wpAny_updateSeq (k1 S _ nW hS) rfl<|AA (wpAny_letGo<|AB ?_));exact fin v0 _ tk (by rw[ej];exact p0) λb o hb g=>upO hb<|k1 b o (sub1 hb) g
 |succ k ih=>
  intro j s v0 c en st p0 hJ hS fin;refine Aw F.entry_min_loop ?_;rw[Around.under_plainId F.plain_min_loop];refine AA (m:=seqItems?<|.ref S)<|wpAny_seqItems hS rfl ?_;refine AA (m:=tryCatch (pyNext<|.ref I) _) (wpAny_tryCatch<|W.item (j+1) s _ _ (by omega) st λv h1 tk pv st1 k1=> ?_);have hS1:=k1 S _ nW hS;have hJ1:J h1:=stay _ _ hJ λb o hb g=>k1 b o (sub1 hb) g
  refine AA (m:=tryCatch (holding [v,v]<|richCompare .Lt v v0>>=_) _) (wpAny_tryCatch<|Ah (AA<|ask (j+1) (Ac bt j) v v0 ⟨h1,s.gens,s.drawn,tk,s.os⟩ _ _ hJ1 pv p0 ?_));refine AA<|Ah (AZ<|AA (wpAny_letGo<|AB ?_));have ab:Ac bt (j+1)=if bt (j+1) (Ac bt j) then j+1 else Ac bt j:=rfl
  cases q:bt (j+1) (Ac bt j) with
  |true=>rw[q,if_pos rfl] at ab;simp only[if_true];refine AA<|wpAny_updateSeq hS1 rfl (AA<|wpAny_letGo ?_);rw[nm];refine AB ⟨plainId_quiet F.plain_min_loop _,ih (j+1) _ v _ (by omega) (upF st1) (by rw[ab];exact pv) (stay _ _ hJ1 λb o hb g=>upO hb g) (gC _ hS1 rfl) λv' h2 tk2 p2 k2=> ?_⟩;exact fin v' h2 tk2 p2 λb o hb g=>k2 b o hb (upO hb<|k1 b o (sub1 hb) g)
  |false=>rw[q,if_neg bF] at ab;simp only[bY,if_false];refine AA<|wpAny_letGo ?_;rw[nm];refine AB ⟨plainId_quiet F.plain_min_loop _,ih (j+1) _ v0 c (by omega) st1 (by rw[ab];exact p0) hJ1 hS1 λv' h2 tk2 p2 k2=> ?_⟩;exact fin v' h2 tk2 p2 λb o hb g=>k2 b o hb<|k1 b o (sub1 hb) g
theorem aBH(W:Walks prog w A.in1 I fp wr n P St)(ask:aNn prog w A.in1 J P bt)(stay:aIm (S::wr) J)(nS:S∉fp)(h0:0<n){s:BF}{c:Nat}(st:St 0 s.heap)(hJ:J s.heap)(hS:s.heap.get? S=some {cls:=.type "list",dict:=none,data:=.seq #[] c,slots:= #[]})
  (fin:∀v h' tk,P (Ac bt<|n-1) v->(∀b o,b∉S::wr->s.heap.get? b=some o->h'.get? b=some o)->R (.ok<|.ret v) {s with heap:=h',toks:=tk}):codeAny (AH prog w) A (.builtin "min.loop" ⟨[.ref I,.none,.ref S],[]⟩) R s:=by
 have nW:S∉wr:=λz=>nS<|W.sub S z
 have nm:(toString "min"++toString ".loop":String)="min.loop":=by decide
 have upO:∀ {h:BI}{f:BJ->BJ}{b:BG}{o:BJ},b∉S::wr->h.get? b=some o->(h.update S f).get? b=some o:=λ{h f b o} hb g=>by rw[cO _ _ (λz=>hb<|by rw[<-z];exact aG)];exact g
 have sub1:∀ {b:BG},b∉S::wr->b∉wr:=λhb z=>hb<|aF _ z
 refine Aw F.entry_min_loop ?_;rw[Around.under_plainId F.plain_min_loop];refine AA (m:=seqItems?<|.ref S)<|wpAny_seqItems hS rfl ?_;refine AA (m:=tryCatch (pyNext<|.ref I) _) (wpAny_tryCatch<|W.item 0 s _ _ h0 st λv h1 tk pv st1 k1=> ?_);have hS1:=k1 S _ nW hS;refine AA (m:=updateSeq S λ_=> #[v,v])<|wpAny_updateSeq hS1 rfl ?_;rw[nm];refine AB ⟨plainId_quiet F.plain_min_loop _,aDP W ask stay nS (n-1) 0 _ v _ (by omega) (W.frame _ _ _ st1 λb hb o g=> ?_) pv (stay _ _ hJ λb o hb g=>upO hb<|k1 b o (sub1 hb) g) (gC _ hS1 rfl) λv' h2 tk2 p2 k2=> ?_⟩
 ·rw[cO _ _ (show S≠b from λz=>nS<|by rw[z];exact hb)];exact g
 ·exact fin v' h2 tk2 p2 λb o hb g=>k2 b o hb (upO hb<|k1 b o (sub1 hb) g)
theorem aDW{E:BE->BF->Prop}{s:BF}{x:BE}{Q:BE->BF->Prop}
  (h:AK (AH prog w) A.in1 (pyIter x) (fun it t=>∃ (I:BG) (fp wr:List BG) (n:Nat) (P:Nat→BE→Prop) (St:Nat→BI→Prop) (J:BI→Prop) (bt:Nat→Nat→Bool),it= .ref I∧Walks prog w A.in1 I fp wr n P St∧St 0 t.heap∧(∀b∈fp,b<t.heap.objs.size)∧0<n∧aNn prog w A.in1 J P bt∧J t.heap∧aIm (t.heap.objs.size::wr) J∧
   ∀v h' tk,P (Ac bt (n-1)) v->(∀b o,b∉wr->t.heap.get? b=some o->h'.get? b=some o)->Q v {t with heap:=h',toks:=tk}) E s):
  AK (AH prog w) A (call (.builtin "min") [x]) Q E s:=by
 have nm:(toString "min"++toString ".loop":String)="min.loop":=by decide
 refine call_function_tree F.kind_min F.plain_min F.entry_min (F.args_min1 _) ?_;refine AA (m:=Builtin.Builtins.bindParams "min" ["key","default"] 0 ⟨[],[]⟩)<|wpAny_of_eq (a:=[none,none]) rfl (AA<|AB ?_);refine AA<|AY h (λit t hx=> ?_) λ_ _ z=>z;obtain⟨I,fp,wr,n,P,St,J,bt,rfl,W,st,hfp,h0,ask,hJ,stay,q⟩:=hx;refine AA<|AV ?_;have nS:t.heap.objs.size∉fp:=λz=>eD _<|hfp _ z
 rw[nm];refine AB ⟨plainId_quiet F.plain_min_loop _,aBH W ask stay nS h0 (W.frame _ _ _ st λb _ o g=>aJ _ g) (stay _ _ hJ λb o _ g=>aJ _ g) (bK _ rfl) λv h' tk pv k=> ?_⟩;refine q v h' tk pv λb o hb g=>k b o (λz=> ?_)<|aJ _ g
 rcases aU.mp z with z|z
 ·exact eD _<|z▸aR g
 ·exact hb z
end
noncomputable def rkA(r:AG->Nat)(xs:Array AG)(i:Nat):Nat:=match xs[i]? with
 |some p=>r p
 |none=>0
def AscR(r:AG->Nat)(xs:Array AG)(l h:Nat):Prop:=∀i j,l<=i->i<j->j<h->rkA r xs i<rkA r xs j
theorem hG{r:AG->Nat}{xs ys:Array AG}{i j:Nat}(h:xs[i]? =ys[j]?):rkA r xs i=rkA r ys j:=by unfold rkA;rw[h]
theorem dQ{r:AG->Nat}{xs:Array AG}{i:Nat}(h:i<xs.size):rkA r xs i=r xs[i]:=by unfold rkA;rw[getElem?_pos xs i h]
structure kX(prog:AF)(w:AM)(A:BH)(E:BE->BF->Prop)(s:BF)(κ:Aq)(r:AG->Nat)(a₀:Array AG):Prop where
 ask:∀ {x y:AG}{st:BL}{Q:Option Bool->BL->Prop},x∈a₀.toList->y∈a₀.toList->kindOf st=κ->Q (some (decide<|r x<r y)) st->wpS (AH prog w) A E s (lt' x y) Q st
 nd:(a₀.toList.map r).Nodup
structure SB(κ:Aq)(a₀:Array AG)(st:BL):Prop where
 perm:(AJ st).Perm a₀
 kind:kindOf st=κ
 failed:failedOf st=none
structure Stp(κ:Aq)(a₀:Array AG)(lo hi:Nat)(st st':BL):Prop where
 sb:SB κ a₀ st'
 pend:AD st'=AD st
 keep:∀k,k<lo\/hi<=k->(AJ st')[k]? =(AJ st)[k]?
variable {E:BE->BF->Prop}{κ:Aq}{r:AG->Nat}{a₀:Array AG}{st st':BL}
theorem SB.size(h:SB κ a₀ st):(AJ st).size=a₀.size:=h.perm.size_eq
theorem SB.mem(h:SB κ a₀ st){i:Nat}(hi:i<(AJ st).size):(AJ st)[i]∈a₀.toList:=(gA.mp h.perm).mem_iff.mp<|by simp
theorem aNQ{xs:Array AG}(nd:(xs.toList.map r).Nodup){i j:Nat}(hi:i<xs.size)(hj:j<xs.size)(hij:i≠j):rkA r xs i≠rkA r xs j:=λe=>by
 rw[dQ hi,dQ hj] at e;have e2:(xs.toList.map r)[i]'(by simpa using hi)=(xs.toList.map r)[j]'(by simpa using hj):=by simpa using e
 exact hij<|(dR nd).mp e2
theorem SB.nd(h:SB κ a₀ st)(K:kX prog w A E s κ r a₀):((AJ st).toList.map r).Nodup:=(((gA.mp h.perm).map r).nodup_iff).mpr K.nd
theorem SB.ne(h:SB κ a₀ st)(K:kX prog w A E s κ r a₀){i j:Nat}(hi:i<a₀.size)(hj:j<a₀.size)(hij:i≠j):rkA r (AJ st) i≠rkA r (AJ st) j:=
 aNQ (h.nd K) (by rw[h.size];exact hi) (by rw[h.size];exact hj) hij
theorem Stp.refl(h:SB κ a₀ st)(lo hi:Nat):Stp κ a₀ lo hi st st:=⟨h,rfl,λ_ _=>rfl⟩
theorem Stp.trans{lo hi:Nat}{st'':BL}(h:Stp κ a₀ lo hi st st')(h2:Stp κ a₀ lo hi st' st''):Stp κ a₀ lo hi st st'':=⟨h2.sb,h2.pend.trans h.pend,λk hk=>(h2.keep k hk).trans<|h.keep k hk⟩
theorem SB.setArr(h:SB κ a₀ st){xs:Array AG}(hp:xs.Perm (AJ st)):SB κ a₀ (setArr st xs):=⟨hp.trans h.perm,h.kind,h.failed⟩
theorem eA{xs:Array AG}{i:Nat}{Q:AG->BL->Prop}(hi:i<xs.size)(h:Q xs[i] st):wpS (AH prog w) A E s (elem' xs i) Q st:=by rw[elem'_eq,getElem?_pos xs i hi];exact AI h
theorem qJ{i j:Nat}{Q:Option Bool->BL->Prop}(K:kX prog w A E s κ r a₀)(hB:SB κ a₀ st)(hi:i<a₀.size)(hj:j<a₀.size)
  (h:Q (some (decide<|rkA r (AJ st) i<rkA r (AJ st) j)) st):wpS (AH prog w) A E s (ltAt' i j) Q st:=by
 have hi':i<(AJ st).size:=by rw[hB.size];exact hi
 have hj':j<(AJ st).size:=by rw[hB.size];exact hj
 rw[ltAt'_eq];refine AE<|wpS_get ?_;show wpS _ _ _ _ (do let x <-elem' (AJ st) i;let y <-elem' (AJ st) j;lt' x y) Q st;refine AE (eA hi'<|AE (eA hj'<|K.ask (hB.mem hi') (hB.mem hj') hB.kind ?_));rw[dQ hi',dQ hj'] at h;exact h
theorem xU{xs:Array AG}{i j:Nat}(hj:j<=xs.size)(k:Nat):
  rkA r (mirror xs i j<|(j-i) / 2) k=if i<=k/\k<j then rkA r xs (i+j-1-k) else rkA r xs k:=by
 have e:=getElem?_mirror_all (i:=i) hj k
 by_cases h1:i<=k/\k<j
 ·rw[if_pos h1] at e ⊢;exact hG e
 ·rw[if_neg h1] at e ⊢;exact hG e
theorem xO{xs:Array AG}{src d:Nat}(hs:src<xs.size)(hd:d<=src)(k:Nat):
  rkA r (bubble xs src d) k=if k=src-d then rkA r xs src else if src-d<k/\k<=src then rkA r xs (k-1) else rkA r xs k:=by
 have e:=getElem?_bubble hs d hd k
 by_cases h1:k=src-d
 ·rw[if_pos h1] at e ⊢;exact hG e
 ·rw[if_neg h1] at e ⊢
  by_cases h2:src-d<k/\k<=src
  ·rw[if_pos h2] at e ⊢;exact hG e
  ·rw[if_neg h2] at e ⊢;exact hG e
theorem AscR.snoc{xs:Array AG}{l h:Nat}(a:AscR r xs l h)(lt:l<h)(q:rkA r xs (h-1)<rkA r xs h):AscR r xs l (h+1):=λi j hi hij hj=>by
 by_cases e:j=h
 ·subst e
  by_cases e2:i=j-1
  ·rw[e2];exact q
  ·exact oP (a i (j-1) hi (by omega)<|by omega) q
 ·exact a i j hi hij<|by omega
theorem aCS{lo a nrem:Nat}{Q:Option (Option Nat)×Nat->BL->Prop}(K:kX prog w A E s κ r a₀)(hB:SB κ a₀ st)(ha:1<=a)(han:a<=nrem)(hn:lo+nrem<=a₀.size)(hs:AscR r (AJ st) lo (lo+a))
  (h:∀m,a<=m->m<=nrem->AscR r (AJ st) lo (lo+m)->(m<nrem->rkA r (AJ st) (lo+m)<rkA r (AJ st) (lo+m-1))->Q (none,m) st):
  wpS (AH prog w) A E s (forIn [a:nrem] ((none,a):Option (Option Nat) × Nat) fun _ __s=>do
   let __x <-ltAt' (lo+__s.snd) (lo+__s.snd-1)
   match __x with
   |some smaller=>if smaller=true then pure (ForInStep.done (none,__s.snd)) else pure (ForInStep.yield (none,__s.snd+1))
   |_=>pure (ForInStep.done (some none,__s.snd))) Q st:=by
 refine AU (I:=λx c st'=>st'=st/\c=(none,x)/\AscR r (AJ st) lo (lo+x)) ?_ ?_ ⟨rfl,rfl,hs⟩
 ·rintro x c st' hx hxn ⟨rfl,rfl,hs'⟩;dsimp only;refine AE (qJ K hB (by omega) (by omega) ?_)
  by_cases q:rkA r (AJ st') (lo+x)<rkA r (AJ st') (lo+x-1)
  ·simp only[q,decide_true,if_true];exact AI<|h x hx (by omega) hs' λ_=>q
  ·simp only[q,decide_false,bY,if_false];refine AI ⟨rfl,rfl, ?_⟩;have ne:=hB.ne K (i:=lo+x) (j:=lo+x-1) (by omega) (by omega) (by omega);exact hs'.snoc (by omega)<|by omega
 ·rintro c st' ⟨rfl,rfl,hs'⟩;rw[show max a nrem=nrem by omega] at hs' ⊢;exact h nrem han (aP _) hs' λz=>absurd z<|eD _
def DscR(r:AG->Nat)(xs:Array AG)(l h:Nat):Prop:=∀i j,l<=i->i<j->j<h->rkA r xs j<rkA r xs i
theorem DscR.snoc{xs:Array AG}{l h:Nat}(a:DscR r xs l h)(lt:l<h)(q:rkA r xs h<rkA r xs (h-1)):DscR r xs l (h+1):=λi j hi hij hj=>by
 by_cases e:j=h
 ·subst e
  by_cases e2:i=j-1
  ·rw[e2];exact q
  ·exact oP q (a i (j-1) hi (by omega)<|by omega)
 ·exact a i j hi hij<|by omega
theorem aBA{lo nrem:Nat}{Q:Option Nat->BL->Prop}(K:kX prog w A E s κ r a₀)(hB:SB κ a₀ st)(h1:1<=nrem)(hn:lo+nrem<=a₀.size)
  (h:∀m st',1<=m->m<=nrem->Stp κ a₀ lo (lo+nrem) st st'->AscR r (AJ st') lo (lo+m)->Q (some m) st'):wpS (AH prog w) A E s (countRun' lo nrem) Q st:=by
 rw[countRun'_eq];refine AE<|aCS K hB (aP 1) h1 hn (λi j h1 h2 h3=>by omega) λm hm1 hm2 hs hq=> ?_;dsimp only
 by_cases e:m=nrem
 ·rw[if_pos<|by simpa using e];exact AI<|h m st hm1 hm2 (.refl hB _ _) hs
 ·rw[if_neg<|by simpa using e]
  by_cases m1:m>1
  ·rw[if_pos m1];refine AE<|qJ K hB (by omega) (by omega) ?_;rw[decide_eq_true (hs lo (lo+m-1) (aP _) (by omega)<|by omega)];dsimp only;rw[if_pos rfl];exact AI<|h m st hm1 hm2 (.refl hB _ _) hs
  ·rw[if_neg m1];have em:m=1:=by omega
   subst em;have hq:=hq (by omega);refine AE (wpS_lift<|At ⟨rfl, ?_⟩);refine AE<|Ab (AU (I:=λx c st'=>st'=st/\c=(none,x,0)/\DscR r (AJ st) lo (lo+x)) (Q:=λc st'=>st'=st/\∃m,c=(none,m,0)/\2<=m/\m<=nrem/\DscR r (AJ st) lo (lo+m)) ?step ?fin ⟨rfl,rfl, ?init⟩) ?post
   case init=>
    intro i j h1 h2 h3;have e1:i=lo:=by omega
    have e2:j=lo+1:=by omega
    subst e1 e2;exact hq
   case step=>
    rintro x c st' hx hxn ⟨rfl,rfl,hs'⟩;dsimp only;refine AE<|qJ K hB (by omega) (by omega) ?_
    by_cases q:rkA r (AJ st') (lo+x)<rkA r (AJ st') (lo+x-1)
    ·simp only[q,decide_true,if_true];rw[if_neg<|by omega];exact AI ⟨rfl,rfl,hs'.snoc (by omega) q⟩
    ·simp only[q,decide_false,bY,if_false];refine AE<|qJ K hB (by omega) (by omega) ?_;have ne:=hB.ne K (i:=lo+x) (j:=lo+x-1) (by omega) (by omega) (by omega);rw[decide_eq_true (show rkA r (AJ st') (lo+x-1)<rkA r (AJ st') (lo+x) by omega)];dsimp only;rw[if_pos rfl];exact AI ⟨rfl,x,rfl,hx,by omega,hs'⟩
   case fin=>rintro c st' ⟨rfl,rfl,hs'⟩;rw[show max (1+1) nrem=nrem by omega] at hs' ⊢;exact⟨rfl,nrem,rfl,by omega,aP _,hs'⟩
   case post=>
    rintro c st' ⟨rfl,m,rfl,m2,mn,hd⟩;dsimp only;rw[if_neg<|by omega,reverseSlice'_eq];refine AE<|Au ?_;have hz:lo+m<=(AJ st').size:=by rw[hB.size];omega
    have S:Stp κ a₀ lo (lo+nrem) st' (setArr st' (mirror (AJ st') lo (lo+m)<|(lo+m-lo) / 2)):=by refine⟨hB.setArr<|mirror_perm _ _ _ _,rfl,λk hk=> ?_⟩;show(mirror (AJ st') lo (lo+m)<|(lo+m-lo) / 2)[k]? =_;rw[getElem?_mirror_all hz,if_neg<|by omega]
    refine AE<|aCS K S.sb (by omega) mn hn (λi j h1 h2 h3=> ?_) λm' a1 a2 a3 _=> ?_
    ·show rkA r (mirror (AJ st') lo (lo+m)<|(lo+m-lo) / 2) i<rkA r (mirror (AJ st') lo (lo+m)<|(lo+m-lo) / 2) j;rw[xU hz,xU hz,if_pos<|by omega,if_pos<|by omega];exact hd _ _ (by omega) (by omega)<|by omega
    ·exact AI<|h m' _ (by omega) a2 S a3
theorem aFr{lo ok:Nat}{Q:Bool->BL->Prop}(K:kX prog w A E s κ r a₀)(hB:SB κ a₀ st)(hn:lo+n<=a₀.size)(hok:ok<=n)(hs:AscR r (AJ st) lo (lo+ok))
  (h:∀st',Stp κ a₀ lo (lo+n) st st'->AscR r (AJ st') lo (lo+n)->Q true st'):wpS (AH prog w) A E s (binarySort' lo n ok) Q st:=by
 rw[binarySort'_eq]
 refine AE (Ab (AU (I:=fun k c st'=>c=(none,())∧Stp κ a₀ lo (lo+n) st st'∧AscR r (AJ st') lo (lo+min k n))
  (Q:=λc st'=>c=(none,())/\Stp κ a₀ lo (lo+n) st st'/\AscR r (AJ st') lo (lo+n)) ?step ?fin ?init) ?post)
 case post=>rintro c st' ⟨rfl,S,hs'⟩;exact AI<|h st' S hs'
 case init=>refine⟨rfl,.refl hB _ _,λi j hi hij hj=> ?_⟩;exact hs i j hi hij<|by omega
 case fin=>
  rintro c st' ⟨hc,S,hs'⟩;refine⟨hc,S, ?_⟩
  rwa[show min (max (max ok 1) n) n=n by omega] at hs'
 case step=>
  rintro k c st' hak hkn ⟨rfl,S,hs'⟩;rw[show min k n=k by omega] at hs';have hB':=S.sb;have hk:lo+k<a₀.size:=by omega
  refine AE (Ab (AU (I:=fun x c st''=>st''=st'∧∃l r',c=(none,l,r')∧l≤r'∧r'≤k∧r' - l≤k - x∧
    (∀i,i<l->rkA r (AJ st') (lo+i)<rkA r (AJ st') (lo+k))/\(∀i,r'<=i->i<k->rkA r (AJ st') (lo+k)<rkA r (AJ st') (lo+i)))
   (Q:=fun c st''=>st''=st'∧∃l r',c=(none,l,r')∧l≤k∧
    (∀i,i<l->rkA r (AJ st') (lo+i)<rkA r (AJ st') (lo+k))/\(∀i,l<=i->i<k->rkA r (AJ st') (lo+k)<rkA r (AJ st') (lo+i))) ?istep ?ifin ?iinit) ?ipost)
  case iinit=>exact⟨rfl,0,k,rfl,by omega,by omega,by omega,λi hi=>by omega,λi h1 h2=>by omega⟩
  case ifin=>
   rintro c st'' ⟨rfl,l,r',rfl,hlr,hrk,hm,hlo,hhi⟩;have:l=r':=by omega
   subst this;exact⟨rfl,l,l,rfl,hrk,hlo,hhi⟩
  case istep=>
   rintro x c st'' _ hxk ⟨rfl,l,r',rfl,hlr,hrk,hm,hlo,hhi⟩;dsimp only
   by_cases hge:l>=r'
   ·rw[if_pos hge];have:l=r':=by omega
    subst this;exact AI ⟨rfl,l,l,rfl,hrk,hlo,hhi⟩
   ·rw[if_neg hge];refine AE (qJ K hB' hk (by omega) ?_)
    by_cases hless:rkA r (AJ st'') (lo+k)<rkA r (AJ st'') (lo+(l+r') / 2)
    ·simp only[hless,decide_true,if_true];refine AI ⟨rfl,l,(l+r') / 2,rfl,by omega,by omega,by omega,hlo,λi h1 h2=> ?_⟩
     by_cases e:i=(l+r') / 2
     ·rw[e];exact hless
     ·exact oP hless (hs' _ _ (by omega) (by omega)<|by omega)
    ·simp only[hless,decide_false,bY,if_false];have ne:=hB'.ne K (i:=lo+k) (j:=lo+(l+r') / 2) hk (by omega) (by omega);have hl:rkA r (AJ st'') (lo+(l+r') / 2)<rkA r (AJ st'') (lo+k):=by omega
     refine AI ⟨rfl,(l+r') / 2+1,r',rfl,by omega,by omega,by omega,λi h1=> ?_,hhi⟩
     by_cases e:i=(l+r') / 2
     ·rw[e];exact hl
     ·exact oP (hs' _ _ (by omega) (by omega)<|by omega) hl
  case ipost=>
   rintro c st'' ⟨rfl,l,r',rfl,hlk,hlo,hhi⟩;show wpS _ _ _ _ (do moveDown' (lo+k) (lo+l);pure (ForInStep.yield (none,()))) _ _;rw[moveDown'_eq];have hks:lo+k<(AJ st'').size:=by rw[hB'.size];exact hk
   have ed:lo+k-(lo+l)=k-l:=by omega
   rw[ed];refine AE (Au<|AI ⟨rfl,S.trans ⟨hB'.setArr<|bubble_perm _ _ _,rfl,λi hi=> ?_⟩, ?_⟩)
   ·show(bubble (AJ st'') (lo+k)<|k-l)[i]? =_;rw[getElem?_bubble hks _<|by omega,if_neg<|by omega,if_neg<|by omega]
   rw[show min (k+1) n=k+1 by omega];intro i j hi hij hj;show rkA r (bubble (AJ st'') (lo+k)<|k-l) i<rkA r (bubble (AJ st'') (lo+k)<|k-l) j;rw[xO hks<|by omega,xO hks<|by omega,show lo+k-(k-l)=lo+l by omega]
   have hlo':∀i,lo<=i->i<lo+l->rkA r (AJ st'') i<rkA r (AJ st'') (lo+k):=λi a b=>by
    have:=hlo (i-lo)<|by omega
    rwa[show lo+(i-lo)=i by omega] at this
   have hhi':∀i,lo+l<=i->i<lo+k->rkA r (AJ st'') (lo+k)<rkA r (AJ st'') i:=λi a b=>by
    have:=hhi (i-lo) (by omega)<|by omega
    rwa[show lo+(i-lo)=i by omega] at this
   repeat' split
   all_goals first
    |(exfalso;omega)
    |exact hlo' _ (by omega) (by omega)
    |exact hhi' _ (by omega) (by omega)
    |exact hs' _ _ (by omega) (by omega) (by omega)
noncomputable def lN:Bool->AG->Array AG->Nat->Nat->Nat->StateT BL Sem (Option Nat):=sortPriv%PySem.Builtin.gallop
noncomputable def bey(left:Bool)(key:AG)(arr:Array AG)(base i:Nat):StateT BL Sem (Option Bool):=do
  let x <-elem' arr (base+i)
  if left then lt' x key else return (<-lt' key x).map (!·)
theorem aBC(left:Bool)(key:AG)(arr:Array AG)(base n hint:Nat):lN left key arr base n hint=(do
 let mut lastofs:=0
 let mut ofs:=1
 let mut lo:=0
 let mut hi:=0
 let some right <-bey left key arr base hint|return none
 if right then
  let maxofs:=n-hint
  for _ in[0:n] do
   if ofs>=maxofs then break
   let some more <-bey left key arr base (hint+ofs)|return none
   if !more then break
   lastofs:=ofs
   ofs:=2*ofs+1
  lo:=hint+lastofs+1
  hi:=hint+min ofs maxofs
 else
  let maxofs:=hint+1
  for _ in[0:n] do
   if ofs>=maxofs then break
   let some found <-bey left key arr base (hint-ofs)|return none
   if found then break
   lastofs:=ofs
   ofs:=2*ofs+1
  lo:=hint+1-min ofs maxofs
  hi:=hint-lastofs
 for _ in[0:n] do
  if lo>=hi then break
  let m:=lo+(hi-lo) / 2
  let some more <-bey left key arr base m|return none
  if more then lo:=m+1 else hi:=m
 return some hi):=rfl
theorem qL{left:Bool}{key:AG}{xs:Array AG}{base i:Nat}{Q:Option Bool->BL->Prop}(K:kX prog w A E s κ r a₀)(hk:kindOf st=κ)(mx:∀x∈xs.toList,x∈a₀.toList)(mk:key∈a₀.toList)(hi:base+i<xs.size)(ne:rkA r xs (base+i)≠r key)
  (h:Q (some (decide<|rkA r xs (base+i)<r key)) st):wpS (AH prog w) A E s (bey left key xs base i) Q st:=by
 unfold bey;refine AE<|eA hi ?_;have m1:xs[base+i]∈a₀.toList:=mx _ (by simp);rw[dQ hi] at h ne;cases left with
 |true=>exact K.ask m1 mk hk h
 |false=>
  refine AE (K.ask mk m1 hk<|AI ?_)
  have e:(!decide (r key<r xs[base+i]))=decide (r xs[base+i]<r key):=by
   by_cases q:r xs[base+i]<r key
   ·rw[decide_eq_true q,decide_eq_false<|by omega];rfl
   ·rw[decide_eq_false q,decide_eq_true<|by omega];rfl
  show Q (some<|!decide (r key<r xs[base+i])) st;rw[e];exact h
theorem AscR.le{xs:Array AG}{base:Nat}(a:AscR r xs base (base+n)){i j:Nat}(hij:i<=j)(hj:j<n):rkA r xs (base+i)<=rkA r xs (base+j):=by
 by_cases e:i=j
 ·rw[e];exact aP _
 ·exact dN (a _ _ (by omega) (by omega)<|by omega)
theorem pG{left:Bool}{key:AG}{xs:Array AG}{base hint:Nat}{Q:Option Nat->BL->Prop}(K:kX prog w A E s κ r a₀)(hk:kindOf st=κ)(mx:∀x∈xs.toList,x∈a₀.toList)(mk:key∈a₀.toList)(hx:base+n<=xs.size)(hh:hint<n)
  (asc:AscR r xs base (base+n)) (ne:∀i,i<n->rkA r xs (base+i)≠r key)
  (h:∀k,k<=n->(∀i,i<k->rkA r xs (base+i)<r key)->(∀i,k<=i->i<n->r key<rkA r xs (base+i))->Q (some k) st):wpS (AH prog w) A E s (lN left key xs base n hint) Q st:=by
 rw[aBC];refine AE<|qL K hk mx mk (by omega) (ne _ hh) ?_
 by_cases q:rkA r xs (base+hint)<r key
 ·simp only[q,decide_true,if_true]
  refine AE (Ab (AU (I:=fun x c st'=>st'=st∧∃last ofs,c=(none,last,ofs)∧last<ofs∧x+1≤ofs∧hint+last<n∧rkA r xs (base+(hint+last))<r key)
   (Q:=λc st'=>st'=st/\∃last ofs,c=(none,last,ofs)/\last<ofs/\hint+last<n/\rkA r xs (base+(hint+last))<r key/\(n-hint<=ofs\/(hint+ofs<n/\r key<rkA r xs (base+(hint+ofs))))) ?step ?fin ⟨rfl,0,1,rfl,by omega,by omega,hh,q⟩) ?post)
  case fin=>rintro c st' ⟨rfl,last,ofs,rfl,a,b,c,d⟩;exact⟨rfl,last,ofs,rfl,a,c,d,.inl<|by omega⟩
  case step=>
   rintro x c st' _ hxn ⟨rfl,last,ofs,rfl,a,b,c,d⟩;dsimp only
   by_cases z:ofs>=n-hint
   ·rw[if_pos z];exact AI ⟨rfl,last,ofs,rfl,a,c,d,.inl z⟩
   ·rw[if_neg z];refine AE (qL K hk mx mk (by omega) (ne _<|by omega) ?_)
    by_cases y:rkA r xs (base+(hint+ofs))<r key
    ·simp only[y,decide_true,Bool.not_true,bY,if_false];exact AI ⟨rfl,ofs,2*ofs+1,rfl,by omega,by omega,by omega,y⟩
    ·simp only[y,decide_false,Bool.not_false,if_true];have y':=ne (hint+ofs) (by omega);exact AI ⟨rfl,last,ofs,rfl,a,c,d,.inr ⟨by omega,by omega⟩⟩
  case post=>
   rintro c st' ⟨rfl,last,ofs,rfl,a,b,c,d⟩;dsimp only;have l1:hint+last+1<=hint+min ofs (n-hint):=by omega
   have l2:hint+min ofs (n-hint)<=n:=by omega
   have hl:∀i,i<hint+last+1->rkA r xs (base+i)<r key:=λi hi=>dC (asc.le (by omega) b) c
   have hg:∀i,hint+min ofs (n-hint)<=i->i<n->r key<rkA r xs (base+i):=λi h1 h2=>by
    rcases d with d|⟨d1,d2⟩
    ·omega
    ·exact aV d2<|asc.le (by omega) h2
   refine AE (Ab (AU (I:=fun x c st''=>st''=st'∧∃lo hi,c=(none,lo,hi)∧lo≤hi∧hi≤n∧hi - lo≤n - x∧(∀i,i<lo→rkA r xs (base+i)<r key)∧(∀i,hi≤i→i<n→r key<rkA r xs (base+i)))
    (Q:=λc st''=>st''=st'/\∃k,c=(none,k,k)/\k<=n/\(∀i,i<k->rkA r xs (base+i)<r key)/\(∀i,k<=i->i<n->r key<rkA r xs (base+i))) ?step ?fin ⟨rfl,_,_,rfl,l1,l2,by omega,hl,hg⟩) ?post)
   case post=>rintro c st'' ⟨rfl,k,rfl,a,b,c⟩;exact AI<|h k a b c
   case fin=>
    rintro c st'' ⟨rfl,lo,hi,rfl,a,b,c,d,e⟩;have:lo=hi:=by omega
    subst this;exact⟨rfl,lo,rfl,b,d,e⟩
   case step=>
    rintro x c st'' _ hxn ⟨rfl,lo,hi,rfl,a,b,c,d,e⟩;dsimp only
    by_cases q:lo>=hi
    ·rw[if_pos q];have:lo=hi:=by omega
     subst this;exact AI ⟨rfl,lo,rfl,b,d,e⟩
    ·rw[if_neg q];refine AE (qL K hk mx mk (by omega) (ne _<|by omega) ?_)
     by_cases z:rkA r xs (base+(lo+(hi-lo) / 2))<r key
     ·simp only[z,decide_true,if_true];refine AI ⟨rfl,lo+(hi-lo) / 2+1,hi,rfl,by omega,b,by omega,λi hi'=> ?_,e⟩;exact dC (asc.le (by omega)<|by omega) z
     ·simp only[z,decide_false,bY,if_false];have z':=ne (lo+(hi-lo) / 2) (by omega);refine AI ⟨rfl,lo,lo+(hi-lo) / 2,rfl,by omega,by omega,by omega,d,λi h1 h2=> ?_⟩;exact aV (by omega)<|asc.le h1 h2
 ·simp only[q,decide_false,bY,if_false];have q':=ne hint hh
  refine AE (Ab (AU (I:=fun x c st'=>st'=st∧∃last ofs,c=(none,last,ofs)∧last<ofs∧x+1≤ofs∧last≤hint∧r key<rkA r xs (base+(hint - last)))
   (Q:=λc st'=>st'=st/\∃last ofs,c=(none,last,ofs)/\last<ofs/\last<=hint/\r key<rkA r xs (base+(hint-last))/\(hint+1<=ofs\/(ofs<=hint/\rkA r xs (base+(hint-ofs))<r key))) ?step ?fin ⟨rfl,0,1,rfl,by omega,by omega,by omega,by rw[Nat.sub_zero];omega⟩) ?post)
  case fin=>rintro c st' ⟨rfl,last,ofs,rfl,a,b,c,d⟩;exact⟨rfl,last,ofs,rfl,a,c,d,.inl<|by omega⟩
  case step=>
   rintro x c st' _ hxn ⟨rfl,last,ofs,rfl,a,b,c,d⟩;dsimp only
   by_cases z:ofs>=hint+1
   ·rw[if_pos z];exact AI ⟨rfl,last,ofs,rfl,a,c,d,.inl z⟩
   ·rw[if_neg z];refine AE (qL K hk mx mk (by omega) (ne _<|by omega) ?_)
    by_cases y:rkA r xs (base+(hint-ofs))<r key
    ·simp only[y,decide_true,if_true];exact AI ⟨rfl,last,ofs,rfl,a,c,d,.inr ⟨by omega,y⟩⟩
    ·simp only[y,decide_false,bY,if_false];have y':=ne (hint-ofs) (by omega);exact AI ⟨rfl,ofs,2*ofs+1,rfl,by omega,by omega,by omega,by omega⟩
  case post=>
   rintro c st' ⟨rfl,last,ofs,rfl,a,b,c,d⟩;dsimp only;have l1:hint+1-min ofs (hint+1)<=hint-last:=by omega
   have l2:hint-last<=n:=by omega
   have hl:∀i,i<hint+1-min ofs (hint+1)->rkA r xs (base+i)<r key:=λi hi=>by
    rcases d with d|⟨d1,d2⟩
    ·omega
    ·exact dC (asc.le (by omega)<|by omega) d2
   have hg:∀i,hint-last<=i->i<n->r key<rkA r xs (base+i):=λi h1 h2=>aV c<|asc.le (by omega) h2
   refine AE (Ab (AU (I:=fun x c st''=>st''=st'∧∃lo hi,c=(none,lo,hi)∧lo≤hi∧hi≤n∧hi - lo≤n - x∧(∀i,i<lo→rkA r xs (base+i)<r key)∧(∀i,hi≤i→i<n→r key<rkA r xs (base+i)))
    (Q:=λc st''=>st''=st'/\∃k,c=(none,k,k)/\k<=n/\(∀i,i<k->rkA r xs (base+i)<r key)/\(∀i,k<=i->i<n->r key<rkA r xs (base+i))) ?step ?fin ⟨rfl,_,_,rfl,l1,l2,by omega,hl,hg⟩) ?post)
   case post=>rintro c st'' ⟨rfl,k,rfl,a,b,c⟩;exact AI<|h k a b c
   case fin=>
    rintro c st'' ⟨rfl,lo,hi,rfl,a,b,c,d,e⟩;have:lo=hi:=by omega
    subst this;exact⟨rfl,lo,rfl,b,d,e⟩
   case step=>
    rintro x c st'' _ hxn ⟨rfl,lo,hi,rfl,a,b,c,d,e⟩;dsimp only
    by_cases q:lo>=hi
    ·rw[if_pos q];have:lo=hi:=by omega
     subst this;exact AI ⟨rfl,lo,rfl,b,d,e⟩
    ·rw[if_neg q];refine AE (qL K hk mx mk (by omega) (ne _<|by omega) ?_)
     by_cases z:rkA r xs (base+(lo+(hi-lo) / 2))<r key
     ·simp only[z,decide_true,if_true];refine AI ⟨rfl,lo+(hi-lo) / 2+1,hi,rfl,by omega,b,by omega,λi hi'=> ?_,e⟩;exact dC (asc.le (by omega)<|by omega) z
     ·simp only[z,decide_false,bY,if_false];have z':=ne (lo+(hi-lo) / 2) (by omega);refine AI ⟨rfl,lo,lo+(hi-lo) / 2,rfl,by omega,by omega,by omega,d,λi h1 h2=> ?_⟩;exact aV (by omega)<|asc.le h1 h2
structure MS(r:AG->Nat)(a b:Array AG)(out:List AG)(ia ib:Nat):Prop where
 ha:ia<=a.size
 hb:ib<=b.size
 perm:out.Perm (a.toList.take ia++b.toList.take ib)
 asc:(out.map r).Pairwise (·<·)
 la:∀x∈out,∀i,ia<=i->i<a.size->r x<rkA r a i
 lb:∀x∈out,∀i,ib<=i->i<b.size->r x<rkA r b i
def MD(r:AG->Nat)(a b:Array AG)(out:List AG):Prop:=out.Perm (a.toList++b.toList)/\(out.map r).Pairwise (·<·)
variable {a b:Array AG}{out:List AG}{ia ib:Nat}
theorem MS.swap(m:MS r a b out ia ib):MS r b a out ib ia:=⟨m.hb,m.ha,m.perm.trans iE,m.asc,m.lb,m.la⟩
theorem MS.pushA(m:MS r a b out ia ib)(h:ia<a.size)(asa:AscR r a 0 a.size)(hb:∀j,ib<=j->j<b.size->rkA r a ia<rkA r b j):MS r a b (out++[a[ia]]) (ia+1) ib:=by
 refine⟨h,m.hb, ?_, ?_,λx hx i h1 h2=> ?_,λx hx i h1 h2=> ?_⟩
 ·have e:a.toList.take (ia+1)=a.toList.take ia++[a[ia]]:=by rw[eM];simp[h]
  rw[e,dW];refine(m.perm.append_right _).trans ?_;rw[dW];exact List.Perm.append_left _ iE
 ·rw[aW,iU];refine⟨m.asc,jM _ _,λx hx y hy=> ?_⟩;obtain⟨z,hz,rfl⟩:=aQ.mp hx;have:y=r a[ia]:=by simpa using hy
  rw[this,<-dQ (r:=r) h];exact m.la z hz ia (aP _) h
 ·rcases aM.mp hx with hx|hx
  ·exact m.la x hx i (by omega) h2
  ·rw[aE.mp hx,<-dQ (r:=r) h];exact asa ia i (bP _) (by omega) h2
 ·rcases aM.mp hx with hx|hx
  ·exact m.lb x hx i h1 h2
  ·rw[aE.mp hx,<-dQ (r:=r) h];exact hb i h1 h2
theorem MS.pushB(m:MS r a b out ia ib)(h:ib<b.size)(asb:AscR r b 0 b.size)(hb:∀j,ia<=j->j<a.size->rkA r b ib<rkA r a j):MS r a b (out++[b[ib]]) ia (ib+1):=(m.swap.pushA h asb hb).swap
theorem aFz(h:ia+k<a.size):(a.extract ia<|ia+(k+1)).toList=(a.extract ia<|ia+k).toList++[a[ia+k]]:=by simp only[dJ,cV];rw[show ia+(k+1)-ia=k+1 by omega,show ia+k-ia=k by omega,eM];simp[h]
theorem aFT(i:Nat):(a.extract i<|i+0).toList=[]:=by simp[dJ,cV]
theorem MS.extA(asa:AscR r a 0 a.size)(m:MS r a b out ia ib):∀k,ia+k<=a.size->(∀i,i<k->∀j,ib<=j->j<b.size->rkA r a (ia+i)<rkA r b j)->MS r a b (out++(a.extract ia<|ia+k).toList) (ia+k) ib
 |0,_,_=>by rw[aFT,cM];exact m
 |k+1,h,hb=>by
  have ih:=MS.extA asa m k (by omega) λi hi=>hb i<|by omega
  rw[aFz<|by omega,<-dW];exact ih.pushA (by omega) asa (hb k<|by omega)
theorem MS.extB(asb:AscR r b 0 b.size)(m:MS r a b out ia ib)(k:Nat)(h:ib+k<=b.size)(hb:∀i,i<k->∀j,ia<=j->j<a.size->rkA r b (ib+i)<rkA r a j):MS r a b (out++(b.extract ib<|ib+k).toList) ia (ib+k):=(m.swap.extA asb k h hb).swap
theorem MS.done(m:MS r a b out a.size b.size):MD r a b out:=by refine⟨?_,m.asc⟩;have:=m.perm;rw[hV<|by simp,hV<|by simp] at this;exact this
theorem MS.finA(m:MS r a b out ia b.size)(asa:AscR r a 0 a.size):MD r a b (out++(a.extract ia a.size).toList):=by
 have h:=m.ha;have:=m.extA asa (a.size-ia) (by omega) λi hi j h1 h2=>by omega
 rw[show ia+(a.size-ia)=a.size by omega] at this;exact this.done
theorem MS.finL(m:MS r a b out ia ib)(asa:AscR r a 0 a.size)(asb:AscR r b 0 b.size)(h1:ia+1=a.size)(hab:∀j,j<b.size->rkA r b j<rkA r a (a.size-1)):MD r a b (out++(b.extract ib b.size).toList++(a.extract ia a.size).toList):=by
 have h:=m.hb
 have:=m.extB asb (b.size-ib) (by omega) λi hi j h1 h2=>by
  have e:j=a.size-1:=by omega
  rw[e];exact hab _<|by omega
 rw[show ib+(b.size-ib)=b.size by omega] at this;exact this.finA asa
theorem aJf(i:Nat)(h:a.size<=i):(a.extract i a.size).toList=[]:=by
 rw[dJ,cV];have:a.size-i=0:=by omega
 rw[this];rfl
noncomputable def aOu(st:BL)(g:Nat):BL:=SortSt.mk' (kindOf st) (AJ st) (AD st) g<|failedOf st
noncomputable def iY:Nat->StateT BL Sem Unit:=sortPriv%PySem.Builtin.setMinGallop
theorem iP(g:Nat):iY g=modify λs=>aOu s g:=rfl
noncomputable def vI:Array AG->Array AG->StateT BL Sem (Array AG):=sortPriv%PySem.Builtin.mergeLo
structure SameG(st st':BL):Prop where
 kind:kindOf st'=kindOf st
 arr:AJ st'=AJ st
 pend:AD st'=AD st
 failed:failedOf st'=failedOf st
theorem SameG.refl(st:BL):SameG st st:=⟨rfl,rfl,rfl,rfl⟩
theorem SameG.set(h:SameG st st')(g:Nat):SameG st (aOu st' g):=⟨h.kind,h.arr,h.pend,h.failed⟩
structure MPre(r:AG->Nat)(a₀ a b:Array AG):Prop where
 a1:1<=a.size
 b1:1<=b.size
 asa:AscR r a 0 a.size
 asb:AscR r b 0 b.size
 ma:∀x∈a.toList,x∈a₀.toList
 mb:∀x∈b.toList,x∈a₀.toList
 ne:∀i j,i<a.size->j<b.size->rkA r a i≠rkA r b j
 first:rkA r b 0<rkA r a 0
 last:rkA r b (b.size-1)<rkA r a (a.size-1)
theorem AscR.le0{xs:Array AG}{i j:Nat}(a:AscR r xs 0 n)(hij:i<=j)(hj:j<n):rkA r xs i<=rkA r xs j:=by
 by_cases e:i=j
 ·rw[e];exact aP _
 ·exact dN (a _ _ (by omega) (by omega)<|by omega)
noncomputable abbrev SM:=StateT BL Sem
noncomputable abbrev ML1:=Option (Array AG)×Array AG×Nat×Nat×Nat×Nat
noncomputable abbrev ML2:=Option (Array AG)×Array AG×Nat×Nat×Nat×Nat×Nat
noncomputable abbrev ML0:=Option (Array AG)×Array AG×Nat×Nat×Nat
noncomputable def dnA(a b out:Array AG)(ia ib:Nat):Array AG:=out++a.extract ia a.size++b.extract ib b.size
noncomputable def lsA(a b out:Array AG)(ia ib:Nat):Array AG:=out++b.extract ib b.size++a.extract ia a.size
noncomputable def lo1(a b:Array AG)(mg:Nat)(c:ML1):SM (ForInStep ML1):=do
 let y <-elem' b c.2.2.2.1
 let x <-elem' a c.2.2.1
 let q <-lt' y x
 match q with
 |some bw=>
  if bw=true then do
   let y <-elem' b c.2.2.2.1
   if(c.2.2.2.1+1==b.size)=true then pure (.done (some (dnA a b (c.2.1.push y) c.2.2.1<|c.2.2.2.1+1),c.2.1.push y,c.2.2.1,c.2.2.2.1+1,0,c.2.2.2.2.2+1))
   else if c.2.2.2.2.2+1>=mg then pure (.done (none,c.2.1.push y,c.2.2.1,c.2.2.2.1+1,0,c.2.2.2.2.2+1))
   else pure (.yield (none,c.2.1.push y,c.2.2.1,c.2.2.2.1+1,0,c.2.2.2.2.2+1))
  else do
   let x <-elem' a c.2.2.1
   if(c.2.2.1+1+1==a.size)=true then pure (.done (some<|lsA a b (c.2.1.push x) (c.2.2.1+1) c.2.2.2.1,c.2.1.push x,c.2.2.1+1,c.2.2.2.1,c.2.2.2.2.1+1,0))
   else if c.2.2.2.2.1+1>=mg then pure (.done (none,c.2.1.push x,c.2.2.1+1,c.2.2.2.1,c.2.2.2.2.1+1,0))
   else pure (.yield (none,c.2.1.push x,c.2.2.1+1,c.2.2.2.1,c.2.2.2.2.1+1,0))
 |_=>pure<|.done (some<|dnA a b c.2.1 c.2.2.1 c.2.2.2.1,c.2.1,c.2.2.1,c.2.2.2.1,c.2.2.2.2.1,c.2.2.2.2.2)
noncomputable def aNh(a b out:Array AG)(ia ib mg k k1:Nat):SM (ForInStep ML2):=do
 let x <-elem' a ia
 if(ia+1+1==a.size)=true then pure (.done (some<|lsA a b (out.push x) (ia+1) ib,out.push x,ia+1,ib,mg,k,k1))
 else if(decide (k<7)&&decide (k1<7))=true then pure (.done (none,out.push x,ia+1,ib,mg,k,k1))
 else pure (.yield (none,out.push x,ia+1,ib,mg,k,k1))
noncomputable def aMZ(a b out:Array AG)(ia ib mg k bc:Nat):SM (ForInStep ML2):=do
 let y <-elem' b ib
 if(ib+1==b.size)=true then pure (.done (some (dnA a b (out.push y) ia<|ib+1),out.push y,ia,ib+1,mg,k,bc))
 else do
  let x <-elem' a ia
  let q <-lN true x b (ib+1) (b.size-(ib+1)) 0
  match q with
  |some k1=>
   if k1>0 then
    if(ib+1+k1==b.size)=true then pure (.done (some (dnA a b (out.push y++b.extract (ib+1) (ib+1+k1)) ia<|ib+1+k1),out.push y++b.extract (ib+1) (ib+1+k1),ia,ib+1+k1,mg,k,k1))
    else aNh a b (out.push y++b.extract (ib+1) (ib+1+k1)) ia (ib+1+k1) mg k k1
   else aNh a b (out.push y) ia (ib+1) mg k k1
  |_=>pure<|.done (some (dnA a b (out.push y) ia<|ib+1),out.push y,ia,ib+1,mg,k,bc)
noncomputable def aKG(a b out:Array AG)(ia ib mg ac bc:Nat):SM (ForInStep ML2):=do
 iY mg
 let y <-elem' b ib
 let q <-lN false y a ia (a.size-ia) 0
 match q with
 |some k=>
  if k>0 then
   if(ia+k+1==a.size)=true then pure (.done (some<|lsA a b (out++a.extract ia (ia+k)) (ia+k) ib,out++a.extract ia (ia+k),ia+k,ib,mg,k,bc))
   else if(ia+k==a.size)=true then pure (.done (some<|dnA a b (out++a.extract ia (ia+k)) (ia+k) ib,out++a.extract ia (ia+k),ia+k,ib,mg,k,bc))
   else aMZ a b (out++a.extract ia (ia+k)) (ia+k) ib mg k bc
  else aMZ a b out ia ib mg k bc
 |_=>pure<|.done (some<|dnA a b out ia ib,out,ia,ib,mg,ac,bc)
noncomputable def lo2(a b:Array AG)(c:ML2):SM (ForInStep ML2):=
 if c.2.2.2.2.1>1 then aKG a b c.2.1 c.2.2.1 c.2.2.2.1 (c.2.2.2.2.1-1) c.2.2.2.2.2.1 c.2.2.2.2.2.2
 else aKG a b c.2.1 c.2.2.1 c.2.2.2.1 c.2.2.2.2.1 c.2.2.2.2.2.1 c.2.2.2.2.2.2
noncomputable def lo0(a b:Array AG)(c:ML0):SM (ForInStep ML0):=do
 let d <-forIn [:a.size+b.size] ((none,c.2.1,c.2.2.1,c.2.2.2.1,0,0):ML1) λ_ d=>lo1 a b c.2.2.2.2 d
 match d.1 with
 |some r=>pure<|.done (some r,d.2.1,d.2.2.1,d.2.2.2.1,c.2.2.2.2)
 |none=>do
  liftM (rule "list.sort.gallop")
  let e <-forIn [:a.size+b.size] ((none,d.2.1,d.2.2.1,d.2.2.2.1,c.2.2.2.2+1,d.2.2.2.2.1,d.2.2.2.2.2):ML2) λ_ e=>lo2 a b e
  match e.1 with
  |some r=>pure<|.done (some r,e.2.1,e.2.2.1,e.2.2.2.1,e.2.2.2.2.1)
  |none=>do
   iY (e.2.2.2.2.1+1)
   pure (.yield (none,e.2.1,e.2.2.1,e.2.2.2.1,e.2.2.2.2.1+1))
noncomputable def loM(a b:Array AG):SM (Array AG):=do
 liftM (rule "list.sort.merge-lo")
 let y <-elem' b 0
 if(1==b.size)=true then pure (dnA a b #[y] 0 1)
 else if(0+1==a.size)=true then pure (lsA a b #[y] 0 1)
 else do
  let g <-get
  let c <-forIn [:a.size+b.size] ((none, #[y],0,1,gallopOf g):ML0) λ_ c=>lo0 a b c
  match c.1 with
  |some r=>pure r
  |none=>liftM (unsupported "internal:list.sort.merge-bound":Sem (Array AG))
theorem aMa(a b:Array AG):vI a b=loM a b:=by kernel_rfl
def FIN(r:AG->Nat)(a b:Array AG)(o:Option (Array AG)):Prop:=∃res,o=some res/\MD r a b res.toList
def OKm(r:AG->Nat)(a b:Array AG)(N:Nat)(o:Option (Array AG))(out:Array AG)(ia ib:Nat):Prop:=o=none/\MS r a b out.toList ia ib/\ia+1<a.size/\ib<b.size/\N<=ia+ib
theorem OKm.mono{N N':Nat}{o:Option (Array AG)}{out:Array AG}(h:OKm r a b N o out ia ib)(le:N'<=N):OKm r a b N' o out ia ib:=⟨h.1,h.2.1,h.2.2.1,h.2.2.2.1,cG le h.2.2.2.2⟩
section
variable {prog:AF}{w:AM}{A:BH}{E:BE->BF->Prop}{s:BF}{κ:Aq}{r:AG->Nat}{a₀ a b out:Array AG}{st st0:BL}{ia ib:Nat}
theorem MPre.last'(M:MPre r a₀ a b):∀j,j<b.size->rkA r b j<rkA r a (a.size-1):=λj hj=>dC (M.asb.le0 (by omega)<|by omega) M.last
theorem yW(M:MPre r a₀ a b)(m:MS r a b out.toList ia ib)(h:ib=b.size):FIN r a b (some<|dnA a b out ia ib):=by subst h;refine⟨_,rfl, ?_⟩;have:=m.finA M.asa;unfold dnA;rw[dD,dD,aJf _<|aP _,cM];exact this
theorem aAF(M:MPre r a₀ a b)(m:MS r a b out.toList ia ib)(h:ia+1=a.size):FIN r a b (some<|lsA a b out ia ib):=by refine⟨_,rfl, ?_⟩;have:=m.finL M.asa M.asb h M.last';unfold lsA;rw[dD,dD];exact this
theorem MS.pushA'(M:MPre r a₀ a b)(m:MS r a b out.toList ia ib)(h:ia<a.size)(hb:∀j,ib<=j->j<b.size->rkA r a ia<rkA r b j):MS r a b (out.push a[ia]).toList (ia+1) ib:=by rw[jR];exact m.pushA h M.asa hb
theorem MS.pushB'(M:MPre r a₀ a b)(m:MS r a b out.toList ia ib)(h:ib<b.size)(hb:∀j,ia<=j->j<a.size->rkA r b ib<rkA r a j):MS r a b (out.push b[ib]).toList ia (ib+1):=by rw[jR];exact m.pushB h M.asb hb
theorem MS.extA'(M:MPre r a₀ a b)(m:MS r a b out.toList ia ib){k:Nat}(h:ia+k<=a.size)(hb:∀i,i<k->∀j,ib<=j->j<b.size->rkA r a (ia+i)<rkA r b j):MS r a b (out++a.extract ia (ia+k)).toList (ia+k) ib:=by rw[dD];exact m.extA M.asa k h hb
theorem MS.extB'(M:MPre r a₀ a b)(m:MS r a b out.toList ia ib){k:Nat}(h:ib+k<=b.size)(hb:∀i,i<k->∀j,ia<=j->j<a.size->rkA r b (ib+i)<rkA r a j):MS r a b (out++b.extract ib (ib+k)).toList ia (ib+k):=by rw[dD];exact m.extB M.asb k h hb
def P2(r:AG->Nat)(a b:Array AG)(st0:BL)(N:Nat):ForInStep ML2->BL->Prop:=λq st'=>SameG st0 st'/\match q with
 |.done c=>FIN r a b c.1\/OKm r a b N c.1 c.2.1 c.2.2.1 c.2.2.2.1
 |.yield c=>OKm r a b N c.1 c.2.1 c.2.2.1 c.2.2.2.1
theorem aDu{N mg k k1:Nat}(M:MPre r a₀ a b)(S:SameG st0 st)(m:MS r a b out.toList ia ib)(h1:ia+1<a.size)(h2:ib<b.size)(hN:N<=ia+1+ib)(hb:∀j,ib<=j->j<b.size->rkA r a ia<rkA r b j):wpS (AH prog w) A E s (aNh a b out ia ib mg k k1) (P2 r a b st0 N) st:=by
 unfold aNh;refine AE<|eA (by omega) ?_;have m2:=m.pushA' M (by omega) hb
 by_cases e:ia+1+1=a.size
 ·rw[if_pos<|by simpa using e];exact AI ⟨S,.inl<|aAF M m2 e⟩
 ·rw[if_neg<|by simpa using e]
  split
  ·exact AI ⟨S,.inr ⟨rfl,m2,by show ia+1+1<_;omega,h2,hN⟩⟩
  ·exact AI ⟨S,rfl,m2,by show ia+1+1<_;omega,h2,hN⟩
theorem aDn{N mg k bc:Nat}(K:kX prog w A E s κ r a₀)(hk:kindOf st0=κ)(M:MPre r a₀ a b)(S:SameG st0 st)(m:MS r a b out.toList ia ib)(h1:ia+1<a.size)(h2:ib<b.size)(hN:N<=ia+1+ib)(hb:∀j,ia<=j->j<a.size->rkA r b ib<rkA r a j):wpS (AH prog w) A E s (aMZ a b out ia ib mg k bc) (P2 r a b st0 N) st:=by
 unfold aMZ;refine AE<|eA (by omega) ?_;have m2:=m.pushB' M h2 hb
 by_cases e:ib+1=b.size
 ·rw[if_pos<|by simpa using e];exact AI ⟨S,.inl<|yW M m2 e⟩
 ·rw[if_neg<|by simpa using e];have h1':ia<a.size:=by omega
  refine AE<|eA h1' (AE<|pG K (S.kind.trans hk) M.mb (M.ma _<|by simp) (by omega) (by omega) (λi j h1 h2 h3=>M.asb i j (by omega) h2<|by omega) (λi hi e=>M.ne ia (ib+1+i) h1' (by omega)<|by rw[e,dQ h1']) λk1 c1 c2 c3=> ?_);dsimp only;rw[<-dQ (r:=r) h1'] at c2 c3;have m3:=m2.extB' M (k:=k1) (by omega) λi hi j j1 j2=>aV (c2 i hi)<|M.asa.le0 j1 j2
  have c3':∀j,ib+1+k1<=j->j<b.size->rkA r a ia<rkA r b j:=λj j1 j2=>by
   have:=c3 (j-(ib+1)) (by omega)<|by omega
   rwa[show ib+1+(j-(ib+1))=j by omega] at this
  by_cases z:k1>0
  ·rw[if_pos z]
   by_cases y:ib+1+k1=b.size
   ·rw[if_pos<|by simpa using y];exact AI ⟨S,.inl<|yW M m3 y⟩
   ·rw[if_neg<|by simpa using y];exact aDu M S m3 h1 (by omega) (by omega) c3'
  ·rw[if_neg z];have z0:k1=0:=by omega
   subst z0;exact aDu M S m2 h1 (by omega) (by omega) c3'
theorem aIQ{N mg ac bc:Nat}(K:kX prog w A E s κ r a₀)(hk:kindOf st0=κ)(M:MPre r a₀ a b)(S:SameG st0 st)(m:MS r a b out.toList ia ib)(h1:ia+1<a.size)(h2:ib<b.size)(hN:N<=ia+1+ib):wpS (AH prog w) A E s (aKG a b out ia ib mg ac bc) (P2 r a b st0 N) st:=by
 unfold aKG;rw[iP];refine AE<|Au ?_;have S:=S.set mg;refine AE<|eA h2 (AE<|pG K (S.kind.trans hk) M.ma (M.mb _<|by simp) (by omega) (by omega) (λi j h1 h2 h3=>M.asa i j (by omega) h2<|by omega) (λi hi e=>M.ne (ia+i) ib (by omega) h2<|by rw[e,dQ h2]) λk c1 c2 c3=> ?_);dsimp only;rw[<-dQ (r:=r) h2] at c2 c3;have m3:=m.extA' M (k:=k) (by omega) λi hi j j1 j2=>aV (c2 i hi)<|M.asb.le0 j1 j2
 have c3':∀j,ia+k<=j->j<a.size->rkA r b ib<rkA r a j:=λj j1 j2=>by
  have:=c3 (j-ia) (by omega)<|by omega
  rwa[show ia+(j-ia)=j by omega] at this
 have kl:ia+k<a.size:=by
  by_cases q:ia+k<a.size
  ·exact q
  ·have:=c2 (a.size-1-ia) (by omega);rw[show ia+(a.size-1-ia)=a.size-1 by omega] at this;have:=M.last' ib h2;omega
 by_cases z:k>0
 ·rw[if_pos z]
  by_cases y:ia+k+1=a.size
  ·rw[if_pos<|by simpa using y];exact AI ⟨S,.inl<|aAF M m3 y⟩
  ·rw[if_neg (by simpa using y),if_neg<|by simp;omega];exact aDn K hk M S m3 (by omega) h2 (by omega) c3'
 ·rw[if_neg z];have z0:k=0:=by omega
  subst z0;exact aDn K hk M S m (by omega) h2 (by omega) c3'
def P1(r:AG->Nat)(a b:Array AG)(st:BL)(N:Nat):ForInStep ML1->BL->Prop:=λq st'=>st'=st/\match q with
 |.done c=>FIN r a b c.1\/OKm r a b N c.1 c.2.1 c.2.2.1 c.2.2.2.1
 |.yield c=>OKm r a b N c.1 c.2.1 c.2.2.1 c.2.2.2.1
theorem aLX{N mg:Nat}{c:ML1}(K:kX prog w A E s κ r a₀)(hk:kindOf st=κ)(M:MPre r a₀ a b)(h:OKm r a b N c.1 c.2.1 c.2.2.1 c.2.2.2.1):wpS (AH prog w) A E s (lo1 a b mg c) (P1 r a b st<|N+1) st:=by
 obtain⟨o,out,ia,ib,ac,bc⟩:=c;obtain⟨h0,m,h1,h2,hN⟩:=h;dsimp only at h0 m h1 h2 hN;unfold lo1;dsimp only;have h1':ia<a.size:=by omega
 refine AE<|eA h2 (AE<|eA h1' (AE<|K.ask (M.mb _<|by simp) (M.ma _<|by simp) hk ?_));dsimp only
 by_cases q:r b[ib]<r a[ia]
 ·rw[if_pos<|by simpa using q];refine AE<|eA h2 ?_;have q':rkA r b ib<rkA r a ia:=by rw[dQ h2,dQ h1'];exact q
  have m2:=m.pushB' M h2 λj j1 j2=>aV q'<|M.asa.le0 j1 j2
  by_cases e:ib+1=b.size
  ·rw[if_pos<|by simpa using e];exact AI ⟨rfl,.inl<|yW M m2 e⟩
  ·rw[if_neg<|by simpa using e]
   split
   ·exact AI ⟨rfl,.inr ⟨rfl,m2,h1,by show ib+1<_;omega,by show _<=ia+(ib+1);omega⟩⟩
   ·exact AI ⟨rfl,rfl,m2,h1,by show ib+1<_;omega,by show _<=ia+(ib+1);omega⟩
 ·rw[if_neg<|by simpa using q];refine AE (eA h1' ?_)
  have q':rkA r a ia<rkA r b ib:=by have:=M.ne ia ib h1' h2;rw[dQ h1',dQ h2] at this ⊢;omega
  have m2:=m.pushA' M h1' λj j1 j2=>aV q'<|M.asb.le0 j1 j2
  by_cases e:ia+1+1=a.size
  ·rw[if_pos<|by simpa using e];exact AI ⟨rfl,.inl<|aAF M m2 e⟩
  ·rw[if_neg<|by simpa using e]
   split
   ·exact AI ⟨rfl,.inr ⟨rfl,m2,by show ia+1+1<_;omega,h2,by show _<=ia+1+ib;omega⟩⟩
   ·exact AI ⟨rfl,rfl,m2,by show ia+1+1<_;omega,h2,by show _<=ia+1+ib;omega⟩
def P0(r:AG->Nat)(a b:Array AG)(st0:BL)(N:Nat):ForInStep ML0->BL->Prop:=λq st'=>SameG st0 st'/\match q with
 |.done c=>FIN r a b c.1
 |.yield c=>OKm r a b N c.1 c.2.1 c.2.2.1 c.2.2.2.1
theorem aLY{N:Nat}{c:ML0}(K:kX prog w A E s κ r a₀)(hk:kindOf st0=κ)(M:MPre r a₀ a b)(S:SameG st0 st)(h:OKm r a b N c.1 c.2.1 c.2.2.1 c.2.2.2.1):wpS (AH prog w) A E s (lo0 a b c) (P0 r a b st0<|N+1) st:=by
 obtain⟨o,out,ia,ib,mg⟩:=c;obtain⟨h0,m,h1,h2,hN⟩:=h;dsimp only at h0 m h1 h2 hN;unfold lo0;dsimp only;refine AE<|Ab (AU (I:=λx d st'=>st'=st/\OKm r a b (N+x) d.1 d.2.1 d.2.2.1 d.2.2.2.1) (Q:=λd st'=>st'=st/\(FIN r a b d.1\/OKm r a b (N+1) d.1 d.2.1 d.2.2.1 d.2.2.2.1)) ?step ?fin ⟨rfl,rfl,m,h1,h2,hN⟩) ?post
 case step=>
  rintro x d st' _ hx ⟨rfl,hd⟩;refine Ab (aLX K (S.kind.trans hk) M hd) λq st'' hq=> ?_
  obtain⟨rfl,hq⟩:=hq;cases q with
  |done d=>exact⟨rfl,hq.imp id λz=>z.mono<|by omega⟩
  |yield d=>exact⟨rfl,hq⟩
 case fin=>rintro d st' ⟨rfl,_,_,h3,h4,h5⟩;omega
 case post=>
  rintro d st' ⟨rfl,hd⟩;obtain⟨o1,out,ia,ib,ac,bc⟩:=d
  rcases hd with⟨res,e,hres⟩|⟨e,m,h1,h2,hN⟩
  ·dsimp only at e;subst e;exact AI ⟨S,res,rfl,hres⟩
  ·dsimp only at e m h1 h2 hN;subst e;dsimp only;refine AE (wpS_lift<|At ⟨rfl, ?_⟩);refine AE (Ab (AU (I:=λx d st'=>SameG st0 st'/\OKm r a b (N+1+x) d.1 d.2.1 d.2.2.1 d.2.2.2.1) (Q:=λd st'=>SameG st0 st'/\(FIN r a b d.1\/OKm r a b (N+1) d.1 d.2.1 d.2.2.1 d.2.2.2.1)) ?step2 ?fin2 ⟨S,rfl,m,h1,h2,hN⟩) ?post2)
   case step2=>
    rintro x ⟨o2,out,ia,ib,mg,ac,bc⟩ st' _ hx ⟨S,_,m,h1,h2,hN⟩;dsimp only at m h1 h2 hN;have key:∀mg,wpS (AH prog w) A E s (aKG a b out ia ib mg ac bc) (P2 r a b st0<|N+1+(x+1)) st':=λmg=>aIQ K hk M S m h1 h2<|by omega
    unfold lo2;dsimp only
    split<;>
    ·refine Ab (key _) λq st'' hq=> ?_
     obtain⟨S',hq⟩:=hq;cases q with
     |done d=>exact⟨S',hq.imp id λz=>z.mono<|by omega⟩
     |yield d=>exact⟨S',hq⟩
   case fin2=>rintro d st' ⟨_,_,_,h3,h4,h5⟩;omega
   case post2=>
    rintro⟨o2,out,ia,ib,mg,ac,bc⟩ st' ⟨S,hd⟩
    rcases hd with⟨res,e,hres⟩|⟨e,m,h1,h2,hN⟩
    ·dsimp only at e;subst e;exact AI ⟨S,res,rfl,hres⟩
    ·dsimp only at e m h1 h2 hN;subst e;dsimp only;rw[iP];exact AE (Au<|AI ⟨S.set _,rfl,m,h1,h2,hN⟩)
theorem aAp{Q:Array AG->BL->Prop}(K:kX prog w A E s κ r a₀)(hk:kindOf st=κ)(M:MPre r a₀ a b)
  (h:∀out st',MD r a b out.toList->SameG st st'->Q out st'):wpS (AH prog w) A E s (vI a b) Q st:=by
 rw[aMa];unfold loM;refine AE (wpS_lift<|At ⟨rfl, ?_⟩);have b1:=M.b1;have a1:=M.a1;refine AE<|eA (by omega) ?_;have m0:MS r a b (#[]:Array AG).toList 0 0:=⟨by omega,by omega,by simp,by simp,λx hx=>by simp at hx,λx hx=>by simp at hx⟩;have m:MS r a b (#[b[0]]:Array AG).toList 0 1:=m0.pushB' M (by omega) λj j1 j2=>aV M.first<|M.asa.le0 j1 j2
 by_cases e:1=b.size
 ·rw[if_pos<|by simpa using e];obtain⟨res,e2,hr⟩:=yW M m e;cases e2;exact AI (h _ _ hr<|.refl _)
 ·rw[if_neg<|by simpa using e]
  by_cases e1:0+1=a.size
  ·rw[if_pos<|by simpa using e1];obtain⟨res,e2,hr⟩:=aAF M m e1;cases e2;exact AI (h _ _ hr<|.refl _)
  ·rw[if_neg<|by simpa using e1];refine AE (wpS_get (AE<|Ab (AU (I:=λx d st'=>SameG st st'/\OKm r a b (x+1) d.1 d.2.1 d.2.2.1 d.2.2.2.1) (Q:=λd st'=>SameG st st'/\FIN r a b d.1) ?step ?fin ⟨.refl _,rfl,m,by show 0+1<_;omega,by show 1<_;omega,aP _⟩) ?post))
   case step=>
    rintro x d st' _ hx ⟨S,hd⟩;refine Ab (aLY K hk M S hd) λq st'' hq=> ?_
    obtain⟨S',hq⟩:=hq;cases q with
    |done d=>exact⟨S',hq⟩
    |yield d=>exact⟨S',hq⟩
   case fin=>rintro d st' ⟨_,_,_,h3,h4,h5⟩;omega
   case post=>rintro d st' ⟨S,res,e,hr⟩;rw[e];exact AI<|h _ _ hr S
end
structure HS(r:AG->Nat)(a b:Array AG)(out:List AG)(na nb:Nat):Prop where
 ha:na<=a.size
 hb:nb<=b.size
 perm:out.Perm (a.toList.drop na++b.toList.drop nb)
 dsc:(out.map r).Pairwise (λx y=>y<x)
 la:∀x∈out,∀i,i<na->rkA r a i<r x
 lb:∀x∈out,∀i,i<nb->rkA r b i<r x
variable {na nb:Nat}
theorem HS.swap(m:HS r a b out na nb):HS r b a out nb na:=⟨m.hb,m.ha,m.perm.trans iE,m.dsc,m.lb,m.la⟩
theorem HS.pushA(m:HS r a b out (na+1) nb)(asa:AscR r a 0 a.size)(hb:∀j,j<nb->rkA r b j<rkA r a na):HS r a b (out++[a[na]'m.ha]) na nb:=by
 have h:na<a.size:=m.ha;refine⟨dN h,m.hb, ?_, ?_,λx hx i h1=> ?_,λx hx i h1=> ?_⟩
 ·have e:a.toList.drop na=a[na]::a.toList.drop (na+1):=by rw[eJ<|by simpa using h];simp
  rw[e,aKf];exact(iE).trans<|List.Perm.cons _ m.perm
 ·rw[aW,iU];refine⟨m.dsc,jM _ _,λx hx y hy=> ?_⟩;obtain⟨z,hz,rfl⟩:=aQ.mp hx;have:y=r a[na]:=by simpa using hy
  rw[this,<-dQ (r:=r) h];exact m.la z hz na<|kO _
 ·rcases aM.mp hx with hx|hx
  ·exact m.la x hx i<|by omega
  ·rw[aE.mp hx,<-dQ (r:=r) h];exact asa i na (bP _) h1 h
 ·rcases aM.mp hx with hx|hx
  ·exact m.lb x hx i h1
  ·rw[aE.mp hx,<-dQ (r:=r) h];exact hb i h1
theorem aGe(h:k+1<=na)(h2:na<=a.size):(a.extract (na-(k+1)) na).toList.reverse=(a.extract (na-k) na).toList.reverse++[a[na-(k+1)]'(by omega)]:=by
 simp only[dJ,cV]
 have e:a.toList.drop (na-(k+1))=a[na-(k+1)]'(by omega)::a.toList.drop (na-k):=by rw[eJ<|by simp;omega];rw[show na-(k+1)+1=na-k by omega];simp
 rw[e,show na-(na-(k+1))=(na-(na-k))+1 by omega,aFd,List.reverse_cons]
theorem HS.extA(asa:AscR r a 0 a.size)(m:HS r a b out na nb):∀k,k<=na->(∀i,na-k<=i->i<na->∀j,j<nb->rkA r b j<rkA r a i)->HS r a b (out++(a.extract (na-k) na).toList.reverse) (na-k) nb
 |0,_,_=>by
  have e:(a.extract (na-0) na).toList.reverse=[]:=by simp[dJ,cV]
  rw[e,cM];exact m
 |k+1,h,hb=>by
  have ih:=HS.extA asa m k (by omega) λi h1 h2=>hb i (by omega) h2
  rw[aGe h m.ha,<-dW];have e:na-k=na-(k+1)+1:=by omega
  rw[e] at ih;have:=ih.pushA asa (hb (na-(k+1)) (aP _)<|by omega);rw[show a.extract (na-k) na=a.extract (na-(k+1)+1) na by rw[e]];exact this
theorem HS.extB(asb:AscR r b 0 b.size)(m:HS r a b out na nb)(k:Nat)(h:k<=nb)(hb:∀i,nb-k<=i->i<nb->∀j,j<na->rkA r a j<rkA r b i):HS r a b (out++(b.extract (nb-k) nb).toList.reverse) na (nb-k):=(m.swap.extA asb k h hb).swap
theorem HS.done(m:HS r a b out 0 0):MD r a b out.reverse:=by
 refine⟨(List.reverse_perm _).trans ?_, ?_⟩
 ·have:=m.perm;simpa using this
 ·rw[List.map_reverse,List.pairwise_reverse];exact m.dsc
theorem HS.finB(m:HS r a b out 0 nb)(asb:AscR r b 0 b.size):MD r a b ((b.extract 0 nb).toList++out.reverse):=by
 have:=m.extB asb nb (aP _) λi h1 h2 j hj=>by omega
 rw[tV] at this;have:=this.done
 rwa[aFe,aEW] at this
theorem HS.finL(m:HS r a b out na 1)(asa:AscR r a 0 a.size)(asb:AscR r b 0 b.size)(first:∀i,i<a.size->rkA r b 0<rkA r a i):MD r a b ((b.extract 0 1).toList++(a.extract 0 na).toList++out.reverse):=by
 have ha:=m.ha
 have:=m.extA asa na (aP _) λi h1 h2 j hj=>by
  have:j=0:=by omega
  subst this;exact first i<|by omega
 rw[tV] at this;have:=this.finB asb
 rwa[aFe,aEW,<-dW] at this
noncomputable def vM:Array AG->Array AG->StateT BL Sem (Array AG):=sortPriv%PySem.Builtin.mergeHi
noncomputable abbrev MH1:=Option (Array AG)×Nat×Nat×Array AG×Nat×Nat
noncomputable abbrev MH2:=Option (Array AG)×Nat×Nat×Array AG×Nat×Nat×Nat
noncomputable abbrev MH0:=Option (Array AG)×Nat×Nat×Array AG×Nat
noncomputable def dnH(a b out:Array AG)(na nb:Nat):Array AG:=a.extract 0 na++b.extract 0 nb++out.reverse
noncomputable def fsB(a b out:Array AG)(na nb:Nat):Array AG:=b.extract 0 nb++a.extract 0 na++out.reverse
noncomputable def hi1(a b:Array AG)(mg:Nat)(c:MH1):SM (ForInStep MH1):=do
 let y <-elem' b (c.2.2.1-1)
 let x <-elem' a (c.2.1-1)
 let q <-lt' y x
 match q with
 |some aw=>
  if aw=true then do
   let x <-elem' a (c.2.1-1)
   if(c.2.1-1==0)=true then pure (.done (some<|dnH a b (c.2.2.2.1.push x) (c.2.1-1) c.2.2.1,c.2.1-1,c.2.2.1,c.2.2.2.1.push x,c.2.2.2.2.1+1,0))
   else if c.2.2.2.2.1+1>=mg then pure (.done (none,c.2.1-1,c.2.2.1,c.2.2.2.1.push x,c.2.2.2.2.1+1,0))
   else pure (.yield (none,c.2.1-1,c.2.2.1,c.2.2.2.1.push x,c.2.2.2.2.1+1,0))
  else do
   let y <-elem' b (c.2.2.1-1)
   if(c.2.2.1-1==1)=true then pure (.done (some (fsB a b (c.2.2.2.1.push y) c.2.1<|c.2.2.1-1),c.2.1,c.2.2.1-1,c.2.2.2.1.push y,0,c.2.2.2.2.2+1))
   else if c.2.2.2.2.2+1>=mg then pure (.done (none,c.2.1,c.2.2.1-1,c.2.2.2.1.push y,0,c.2.2.2.2.2+1))
   else pure (.yield (none,c.2.1,c.2.2.1-1,c.2.2.2.1.push y,0,c.2.2.2.2.2+1))
 |_=>pure<|.done (some<|dnH a b c.2.2.2.1 c.2.1 c.2.2.1,c.2.1,c.2.2.1,c.2.2.2.1,c.2.2.2.2.1,c.2.2.2.2.2)
noncomputable def aMV(a b out:Array AG)(na nb mg k k1:Nat):SM (ForInStep MH2):=do
 let x <-elem' a (na-1)
 if(na-1==0)=true then pure (.done (some<|dnH a b (out.push x) (na-1) nb,na-1,nb,out.push x,mg,k,k1))
 else if(decide (k<7)&&decide (k1<7))=true then pure (.done (none,na-1,nb,out.push x,mg,k,k1))
 else pure (.yield (none,na-1,nb,out.push x,mg,k,k1))
noncomputable def aMW(a b out:Array AG)(na nb mg k bc:Nat):SM (ForInStep MH2):=do
 let y <-elem' b (nb-1)
 if(nb-1==1)=true then pure (.done (some (fsB a b (out.push y) na<|nb-1),na,nb-1,out.push y,mg,k,bc))
 else do
  let x <-elem' a (na-1)
  let q <-lN true x b 0 (nb-1) (nb-1-1)
  match q with
  |some at_=>
   if nb-1-at_>0 then
    if(at_==1)=true then pure (.done (some<|fsB a b (out.push y++(b.extract at_<|nb-1).reverse) na at_,na,at_,out.push y++(b.extract at_<|nb-1).reverse,mg,k,nb-1-at_))
    else if(at_==0)=true then pure (.done (some<|dnH a b (out.push y++(b.extract at_<|nb-1).reverse) na at_,na,at_,out.push y++(b.extract at_<|nb-1).reverse,mg,k,nb-1-at_))
    else aMV a b (out.push y++(b.extract at_<|nb-1).reverse) na at_ mg k (nb-1-at_)
   else aMV a b (out.push y) na (nb-1) mg k (nb-1-at_)
  |_=>pure<|.done (some (dnH a b (out.push y) na<|nb-1),na,nb-1,out.push y,mg,k,bc)
noncomputable def aKB(a b out:Array AG)(na nb mg ac bc:Nat):SM (ForInStep MH2):=do
 iY mg
 let y <-elem' b (nb-1)
 let q <-lN false y a 0 na (na-1)
 match q with
 |some at_=>
  if na-at_>0 then
   if(at_==0)=true then pure (.done (some<|dnH a b (out++(a.extract at_ na).reverse) at_ nb,at_,nb,out++(a.extract at_ na).reverse,mg,na-at_,bc))
   else aMW a b (out++(a.extract at_ na).reverse) at_ nb mg (na-at_) bc
  else aMW a b out na nb mg (na-at_) bc
 |_=>pure<|.done (some<|dnH a b out na nb,na,nb,out,mg,ac,bc)
noncomputable def hi2(a b:Array AG)(c:MH2):SM (ForInStep MH2):=
 if c.2.2.2.2.1>1 then aKB a b c.2.2.2.1 c.2.1 c.2.2.1 (c.2.2.2.2.1-1) c.2.2.2.2.2.1 c.2.2.2.2.2.2
 else aKB a b c.2.2.2.1 c.2.1 c.2.2.1 c.2.2.2.2.1 c.2.2.2.2.2.1 c.2.2.2.2.2.2
noncomputable def hi0(a b:Array AG)(c:MH0):SM (ForInStep MH0):=do
 let d <-forIn [:a.size+b.size] ((none,c.2.1,c.2.2.1,c.2.2.2.1,0,0):MH1) λ_ d=>hi1 a b c.2.2.2.2 d
 match d.1 with
 |some r=>pure<|.done (some r,d.2.1,d.2.2.1,d.2.2.2.1,c.2.2.2.2)
 |none=>do
  liftM (rule "list.sort.gallop")
  let e <-forIn [:a.size+b.size] ((none,d.2.1,d.2.2.1,d.2.2.2.1,c.2.2.2.2+1,d.2.2.2.2.1,d.2.2.2.2.2):MH2) λ_ e=>hi2 a b e
  match e.1 with
  |some r=>pure<|.done (some r,e.2.1,e.2.2.1,e.2.2.2.1,e.2.2.2.2.1)
  |none=>do
   iY (e.2.2.2.2.1+1)
   pure (.yield (none,e.2.1,e.2.2.1,e.2.2.2.1,e.2.2.2.2.1+1))
noncomputable def hiM(a b:Array AG):SM (Array AG):=do
 liftM (rule "list.sort.merge-hi")
 let x <-elem' a (a.size-1)
 if(a.size-1==0)=true then pure (dnH a b #[x] (a.size-1) b.size)
 else if(b.size==1)=true then pure (fsB a b #[x] (a.size-1) b.size)
 else do
  let g <-get
  let c <-forIn [:a.size+b.size] ((none,a.size-1,b.size, #[x],gallopOf g):MH0) λ_ c=>hi0 a b c
  match c.1 with
  |some r=>pure r
  |none=>liftM (unsupported "internal:list.sort.merge-bound":Sem (Array AG))
theorem aLw(a b:Array AG):vM a b=hiM a b:=by kernel_rfl
def OKh(r:AG->Nat)(a b:Array AG)(N:Nat)(o:Option (Array AG))(out:Array AG)(na nb:Nat):Prop:=o=none/\HS r a b out.toList na nb/\1<=na/\2<=nb/\na+nb+N<=a.size+b.size
theorem OKh.mono{N N':Nat}{o:Option (Array AG)}{out:Array AG}(h:OKh r a b N o out na nb)(le:N'<=N):OKh r a b N' o out na nb:=⟨h.1,h.2.1,h.2.2.1,h.2.2.2.1,by have:=h.2.2.2.2;omega⟩
section
variable {prog:AF}{w:AM}{A:BH}{E:BE->BF->Prop}{s:BF}{κ:Aq}{r:AG->Nat}{a₀ a b out:Array AG}{st st0:BL}{na nb:Nat}
theorem MPre.first'(M:MPre r a₀ a b):∀i,i<a.size->rkA r b 0<rkA r a i:=λi hi=>aV M.first<|M.asa.le0 (bP _) hi
theorem ex0(xs:Array AG):(xs.extract 0 0).toList=[]:=by simp[dJ,cV]
theorem aAB(M:MPre r a₀ a b)(m:HS r a b out.toList na nb)(h:na=0):FIN r a b (some<|dnH a b out na nb):=by subst h;refine⟨_,rfl, ?_⟩;have:=m.finB M.asb;unfold dnH;rw[dD,dD,ex0,xH,kP];exact this
theorem zQ(M:MPre r a₀ a b)(m:HS r a b out.toList na nb)(h:nb=1):FIN r a b (some<|fsB a b out na nb):=by subst h;refine⟨_,rfl, ?_⟩;have:=m.finL M.asa M.asb M.first';unfold fsB;rw[dD,dD,kP];exact this
theorem HS.pushA'(M:MPre r a₀ a b)(m:HS r a b out.toList na nb)(h1:1<=na)(hb:∀j,j<nb->rkA r b j<rkA r a (na-1)):HS r a b (out.push<|a[na-1]'(by have:=m.ha;omega)).toList (na-1) nb:=by
 rw[jR];have e:na=na-1+1:=by omega
 have m':HS r a b out.toList (na-1+1) nb:=by rw[<-e];exact m
 exact m'.pushA M.asa hb
theorem HS.pushB'(M:MPre r a₀ a b)(m:HS r a b out.toList na nb)(h1:1<=nb)(hb:∀j,j<na->rkA r a j<rkA r b (nb-1)):HS r a b (out.push<|b[nb-1]'(by have:=m.hb;omega)).toList na (nb-1):=by
 rw[jR];have e:nb=nb-1+1:=by omega
 have m':HS r a b out.toList na (nb-1+1):=by rw[<-e];exact m
 exact(m'.swap.pushA M.asb hb).swap
theorem HS.extA'(M:MPre r a₀ a b)(m:HS r a b out.toList na nb){t:Nat}(h:t<=na)(hb:∀i,t<=i->i<na->∀j,j<nb->rkA r b j<rkA r a i):HS r a b (out++(a.extract t na).reverse).toList t nb:=by rw[dD,kP];have:=m.extA M.asa (na-t) (by omega) (by rw[show na-(na-t)=t by omega];exact hb);rw[show na-(na-t)=t by omega] at this;exact this
theorem HS.extB'(M:MPre r a₀ a b)(m:HS r a b out.toList na nb){t:Nat}(h:t<=nb)(hb:∀i,t<=i->i<nb->∀j,j<na->rkA r a j<rkA r b i):HS r a b (out++(b.extract t nb).reverse).toList na t:=by rw[dD,kP];have:=m.extB M.asb (nb-t) (by omega) (by rw[show nb-(nb-t)=t by omega];exact hb);rw[show nb-(nb-t)=t by omega] at this;exact this
def H2(r:AG->Nat)(a b:Array AG)(st0:BL)(N:Nat):ForInStep MH2->BL->Prop:=λq st'=>SameG st0 st'/\match q with
 |.done c=>FIN r a b c.1\/OKh r a b N c.1 c.2.2.2.1 c.2.1 c.2.2.1
 |.yield c=>OKh r a b N c.1 c.2.2.2.1 c.2.1 c.2.2.1
theorem aDp{N mg k k1:Nat}(M:MPre r a₀ a b)(S:SameG st0 st)(m:HS r a b out.toList na nb)(h1:1<=na)(h2:2<=nb)(hN:na-1+nb+N<=a.size+b.size)(hb:∀j,j<nb->rkA r b j<rkA r a (na-1)):wpS (AH prog w) A E s (aMV a b out na nb mg k k1) (H2 r a b st0 N) st:=by
 unfold aMV;have ha:=m.ha;refine AE<|eA (by omega) ?_;have m2:=m.pushA' M h1 hb
 by_cases e:na-1=0
 ·rw[if_pos<|by simpa using e];exact AI ⟨S,.inl<|aAB M m2 e⟩
 ·rw[if_neg<|by simpa using e]
  split
  ·exact AI ⟨S,.inr ⟨rfl,m2,by show 1<=na-1;omega,h2,hN⟩⟩
  ·exact AI ⟨S,rfl,m2,by show 1<=na-1;omega,h2,hN⟩
theorem aDd{N mg k bc:Nat}(K:kX prog w A E s κ r a₀)(hk:kindOf st0=κ)(M:MPre r a₀ a b)(S:SameG st0 st)(m:HS r a b out.toList na nb)(h1:1<=na)(h2:2<=nb)(hN:na-1+nb+N<=a.size+b.size)(hb:∀j,j<na->rkA r a j<rkA r b (nb-1)):wpS (AH prog w) A E s (aMW a b out na nb mg k bc) (H2 r a b st0 N) st:=by
 unfold aMW;have ha:=m.ha;have hbb:=m.hb;refine AE<|eA (by omega) ?_;have m2:=m.pushB' M (by omega) hb
 by_cases e:nb-1=1
 ·rw[if_pos<|by simpa using e];exact AI ⟨S,.inl<|zQ M m2 e⟩
 ·rw[if_neg<|by simpa using e];have h1':na-1<a.size:=by omega
  refine AE<|eA h1' (AE<|pG K (S.kind.trans hk) M.mb (M.ma _<|by simp) (by omega) (by omega) (λi j h1 h2 h3=>M.asb i j (by omega) h2<|by omega) (λi hi e=>M.ne (na-1) i h1' (by omega)<|by rw[tW] at e;rw[e,dQ h1']) λat_ c1 c2 c3=> ?_);dsimp only;simp only[tW] at c2 c3;rw[<-dQ (r:=r) h1'] at c2 c3;have m3:=m2.extB' M (t:=at_) c1 λi i1 i2 j hj=>dC (M.asa.le0 (by omega) h1')<|c3 i i1 i2
  have a0:1<=at_:=by
   by_cases q:at_=0
   ·subst q;have:=c3 0 (aP _) (by omega);have:=M.first' (na-1) h1';omega
   ·omega
  by_cases z:nb-1-at_>0
  ·rw[if_pos z]
   by_cases y:at_=1
   ·rw[if_pos<|by simpa using y];exact AI ⟨S,.inl<|zQ M m3 y⟩
   ·rw[if_neg (by simpa using y),if_neg<|by simp;omega];exact aDp M S m3 h1 (by omega) (by omega) c2
  ·rw[if_neg z];have z0:at_=nb-1:=by omega
   subst z0;exact aDp M S m2 h1 (by omega) (by omega) c2
theorem aJV{N mg ac bc:Nat}(K:kX prog w A E s κ r a₀)(hk:kindOf st0=κ)(M:MPre r a₀ a b)(S:SameG st0 st)(m:HS r a b out.toList na nb)(h1:1<=na)(h2:2<=nb)(hN:na-1+nb+N<=a.size+b.size):wpS (AH prog w) A E s (aKB a b out na nb mg ac bc) (H2 r a b st0 N) st:=by
 unfold aKB;have ha:=m.ha;have hbb:=m.hb;rw[iP];refine AE<|Au ?_;have S:=S.set mg;have h2':nb-1<b.size:=by omega
 refine AE<|eA h2' (AE<|pG K (S.kind.trans hk) M.ma (M.mb _<|by simp) (by omega) (by omega) (λi j h1 h2 h3=>M.asa i j (by omega) h2<|by omega) (λi hi e=>M.ne i (nb-1) (by omega) h2'<|by rw[tW] at e;rw[e,dQ h2']) λat_ c1 c2 c3=> ?_);dsimp only;simp only[tW] at c2 c3;rw[<-dQ (r:=r) h2'] at c2 c3;have m3:=m.extA' M (t:=at_) c1 λi i1 i2 j hj=>dC (M.asb.le0 (by omega) h2')<|c3 i i1 i2
 by_cases z:na-at_>0
 ·rw[if_pos z]
  by_cases y:at_=0
  ·rw[if_pos<|by simpa using y];exact AI ⟨S,.inl<|aAB M m3 y⟩
  ·rw[if_neg<|by simpa using y];exact aDd K hk M S m3 (by omega) h2 (by omega) c2
 ·rw[if_neg z];have z0:at_=na:=by omega
  subst z0;exact aDd K hk M S m h1 h2 hN c2
def H1(r:AG->Nat)(a b:Array AG)(st:BL)(N:Nat):ForInStep MH1->BL->Prop:=λq st'=>st'=st/\match q with
 |.done c=>FIN r a b c.1\/OKh r a b N c.1 c.2.2.2.1 c.2.1 c.2.2.1
 |.yield c=>OKh r a b N c.1 c.2.2.2.1 c.2.1 c.2.2.1
theorem aMF{N mg:Nat}{c:MH1}(K:kX prog w A E s κ r a₀)(hk:kindOf st=κ)(M:MPre r a₀ a b)(h:OKh r a b N c.1 c.2.2.2.1 c.2.1 c.2.2.1):wpS (AH prog w) A E s (hi1 a b mg c) (H1 r a b st<|N+1) st:=by
 obtain⟨o,na,nb,out,ac,bc⟩:=c;obtain⟨h0,m,h1,h2,hN⟩:=h;dsimp only at h0 m h1 h2 hN;unfold hi1;dsimp only;have ha:=m.ha;have hbb:=m.hb;have h1':na-1<a.size:=by omega
 have h2':nb-1<b.size:=by omega
 refine AE<|eA h2' (AE<|eA h1' (AE<|K.ask (M.mb _<|by simp) (M.ma _<|by simp) hk ?_));dsimp only
 by_cases q:r b[nb-1]<r a[na-1]
 ·rw[if_pos<|by simpa using q];refine AE<|eA h1' ?_;have q':rkA r b (nb-1)<rkA r a (na-1):=by rw[dQ h1',dQ h2'];exact q
  have m2:=m.pushA' M h1 λj hj=>dC (M.asb.le0 (by omega) h2') q'
  by_cases e:na-1=0
  ·rw[if_pos<|by simpa using e];exact AI ⟨rfl,.inl<|aAB M m2 e⟩
  ·rw[if_neg<|by simpa using e]
   split
   ·exact AI ⟨rfl,.inr ⟨rfl,m2,by show 1<=na-1;omega,h2,by show na-1+nb+_<=_;omega⟩⟩
   ·exact AI ⟨rfl,rfl,m2,by show 1<=na-1;omega,h2,by show na-1+nb+_<=_;omega⟩
 ·rw[if_neg<|by simpa using q];refine AE (eA h2' ?_)
  have q':rkA r a (na-1)<rkA r b (nb-1):=by have:=M.ne (na-1) (nb-1) h1' h2';rw[dQ h1',dQ h2'] at this ⊢;omega
  have m2:=m.pushB' M (by omega) λj hj=>dC (M.asa.le0 (by omega) h1') q'
  by_cases e:nb-1=1
  ·rw[if_pos<|by simpa using e];exact AI ⟨rfl,.inl<|zQ M m2 e⟩
  ·rw[if_neg<|by simpa using e]
   split
   ·exact AI ⟨rfl,.inr ⟨rfl,m2,h1,by show 2<=nb-1;omega,by show na+(nb-1)+_<=_;omega⟩⟩
   ·exact AI ⟨rfl,rfl,m2,h1,by show 2<=nb-1;omega,by show na+(nb-1)+_<=_;omega⟩
def H0(r:AG->Nat)(a b:Array AG)(st0:BL)(N:Nat):ForInStep MH0->BL->Prop:=λq st'=>SameG st0 st'/\match q with
 |.done c=>FIN r a b c.1
 |.yield c=>OKh r a b N c.1 c.2.2.2.1 c.2.1 c.2.2.1
theorem aLL{N:Nat}{c:MH0}(K:kX prog w A E s κ r a₀)(hk:kindOf st0=κ)(M:MPre r a₀ a b)(S:SameG st0 st)(h:OKh r a b N c.1 c.2.2.2.1 c.2.1 c.2.2.1):wpS (AH prog w) A E s (hi0 a b c) (H0 r a b st0<|N+1) st:=by
 obtain⟨o,na,nb,out,mg⟩:=c;obtain⟨h0,m,h1,h2,hN⟩:=h;dsimp only at h0 m h1 h2 hN;unfold hi0;dsimp only;refine AE<|Ab (AU (I:=λx d st'=>st'=st/\OKh r a b (N+x) d.1 d.2.2.2.1 d.2.1 d.2.2.1) (Q:=λd st'=>st'=st/\(FIN r a b d.1\/OKh r a b (N+1) d.1 d.2.2.2.1 d.2.1 d.2.2.1)) ?step ?fin ⟨rfl,rfl,m,h1,h2,hN⟩) ?post
 case step=>
  rintro x d st' _ hx ⟨rfl,hd⟩;refine Ab (aMF K (S.kind.trans hk) M hd) λq st'' hq=> ?_
  obtain⟨rfl,hq⟩:=hq;cases q with
  |done d=>exact⟨rfl,hq.imp id λz=>z.mono<|by omega⟩
  |yield d=>exact⟨rfl,hq⟩
 case fin=>rintro d st' ⟨rfl,_,_,h3,h4,h5⟩;omega
 case post=>
  rintro d st' ⟨rfl,hd⟩;obtain⟨o1,na,nb,out,ac,bc⟩:=d
  rcases hd with⟨res,e,hres⟩|⟨e,m,h1,h2,hN⟩
  ·dsimp only at e;subst e;exact AI ⟨S,res,rfl,hres⟩
  ·dsimp only at e m h1 h2 hN;subst e;dsimp only;refine AE (wpS_lift<|At ⟨rfl, ?_⟩);refine AE (Ab (AU (I:=λx d st'=>SameG st0 st'/\OKh r a b (N+1+x) d.1 d.2.2.2.1 d.2.1 d.2.2.1) (Q:=λd st'=>SameG st0 st'/\(FIN r a b d.1\/OKh r a b (N+1) d.1 d.2.2.2.1 d.2.1 d.2.2.1)) ?step2 ?fin2 ⟨S,rfl,m,h1,h2,hN⟩) ?post2)
   case step2=>
    rintro x ⟨o2,na,nb,out,mg,ac,bc⟩ st' _ hx ⟨S,_,m,h1,h2,hN⟩;dsimp only at m h1 h2 hN;have key:∀mg,wpS (AH prog w) A E s (aKB a b out na nb mg ac bc) (H2 r a b st0<|N+1+(x+1)) st':=λmg=>aJV K hk M S m h1 h2<|by omega
    unfold hi2;dsimp only
    split<;>
    ·refine Ab (key _) λq st'' hq=> ?_
     obtain⟨S',hq⟩:=hq;cases q with
     |done d=>exact⟨S',hq.imp id λz=>z.mono<|by omega⟩
     |yield d=>exact⟨S',hq⟩
   case fin2=>rintro d st' ⟨_,_,_,h3,h4,h5⟩;omega
   case post2=>
    rintro⟨o2,na,nb,out,mg,ac,bc⟩ st' ⟨S,hd⟩
    rcases hd with⟨res,e,hres⟩|⟨e,m,h1,h2,hN⟩
    ·dsimp only at e;subst e;exact AI ⟨S,res,rfl,hres⟩
    ·dsimp only at e m h1 h2 hN;subst e;dsimp only;rw[iP];exact AE (Au<|AI ⟨S.set _,rfl,m,h1,h2,hN⟩)
theorem aAv{Q:Array AG->BL->Prop}(K:kX prog w A E s κ r a₀)(hk:kindOf st=κ)(M:MPre r a₀ a b)
  (h:∀out st',MD r a b out.toList->SameG st st'->Q out st'):wpS (AH prog w) A E s (vM a b) Q st:=by
 rw[aLw];unfold hiM;refine AE (wpS_lift<|At ⟨rfl, ?_⟩);have b1:=M.b1;have a1:=M.a1;refine AE<|eA (by omega) ?_;have m0:HS r a b (#[]:Array AG).toList a.size b.size:=⟨aP _,aP _,by rw[aCf<|by simp,aCf<|by simp];exact .refl _,by simp,λx hx=>by simp at hx,λx hx=>by simp at hx⟩;have m:HS r a b (#[a[a.size-1]]:Array AG).toList (a.size-1) b.size:=m0.pushA' M a1 λj hj=>M.last' j hj
 by_cases e:a.size-1=0
 ·rw[if_pos<|by simpa using e];obtain⟨res,e2,hr⟩:=aAB M m e;cases e2;exact AI (h _ _ hr<|.refl _)
 ·rw[if_neg<|by simpa using e]
  by_cases e1:b.size=1
  ·rw[if_pos<|by simpa using e1];obtain⟨res,e2,hr⟩:=zQ M m e1;cases e2;exact AI (h _ _ hr<|.refl _)
  ·rw[if_neg<|by simpa using e1];refine AE (wpS_get (AE<|Ab (AU (I:=λx d st'=>SameG st st'/\OKh r a b (x+1) d.1 d.2.2.2.1 d.2.1 d.2.2.1) (Q:=λd st'=>SameG st st'/\FIN r a b d.1) ?step ?fin ⟨.refl _,rfl,m,by show 1<=a.size-1;omega,by show 2<=b.size;omega,by show a.size-1+b.size+(0+1)<=_;omega⟩) ?post))
   case step=>
    rintro x d st' _ hx ⟨S,hd⟩;refine Ab (aLL K hk M S hd) λq st'' hq=> ?_
    obtain⟨S',hq⟩:=hq;cases q with
    |done d=>exact⟨S',hq⟩
    |yield d=>exact⟨S',hq⟩
   case fin=>rintro d st' ⟨_,_,_,h3,h4,h5⟩;omega
   case post=>rintro d st' ⟨S,res,e,hr⟩;rw[e];exact AI<|h _ _ hr S
end
noncomputable abbrev Pnd:=Array<|Nat×Nat×Nat
noncomputable def wbA(sa:Nat)(m:Array AG)(xs:Array AG):Array AG:=m.toList.zipIdx.foldl (λa (q:AG×Nat)=>a.setIfInBounds (sa+q.2) q.1) xs
noncomputable def mgC(x y:Array AG)(na nb sa:Nat):SM Bool:=do
 let merged <-if na<=nb then vI x y else vM x y
 modify λs=>setArr s (wbA sa merged<|AJ s)
 let s <-get
 pure (failedOf s).isNone
noncomputable def mgB(xs:Array AG)(sa na sb nb:Nat):SM Bool:=do
 if(na==0)=true then pure true
 else do
  let x <-elem' xs (sa+na-1)
  let q <-lN true x xs sb nb (nb-1)
  match q with
  |some nb=>if(nb==0)=true then pure true else mgC (xs.extract sa sb) (xs.extract sb<|sb+nb) na nb sa
  |_=>pure false
noncomputable def mgA(i:Nat):SM Bool:=do
 let s <-get
 match(AD s)[i]?,(AD s)[i+1]? with
 |some (sa,na,pw),some (sb,nb,_)=>do
  set (Az s (((AD s).setIfInBounds i (sa,na+nb,pw)).eraseIdxIfInBounds<|i+1))
  let y <-elem' (AJ s) sb
  let q <-lN false y (AJ s) sa na 0
  match q with
  |some k=>mgB (AJ s) (sa+k) (na-k) sb nb
  |_=>pure false
 |_,_=>liftM (unsupported "internal:list.sort.pending":Sem Bool)
theorem aLR(i:Nat):mergeAt' i=mgA i:=by kernel_rfl
noncomputable def aOK(pw:Nat):SM (ForInStep<|Option Unit×Unit):=do
 let s <-get
 match(if(AD s).size>1 then(AD s)[(AD s).size-2]? else none) with
 |some (_,_,older)=>
  if older<=pw then pure (.done (none,()))
  else do
   let b <-mergeAt' ((AD s).size-2)
   if(!b)=true then pure (.done (some (),())) else pure (.yield (none,()))
 |_=>pure<|.done (none,())
noncomputable def zF(lo n size:Nat):SM (ForInStep<|Option Unit×Nat):=do
 let s <-get
 match(AD s).back? with
 |some (s1,n1,_)=>do
  let c <-forIn [:size] ((none,()):Option Unit×Unit) λ_ _=>aOK<|power' size (2*s1+n1) (2*s1+n1+n1+n) size
  match c.1 with
  |some r=>pure<|.done (some r,lo)
  |none=>do
   modify λs=>Az s<|(AD s).modify ((AD s).size-1) λ(st,len,_)=>(st,len,power' size (2*s1+n1) (2*s1+n1+n1+n) size)
   modify λs=>Az s<|(AD s).push (lo,n,0)
   pure (.yield (none,lo+n))
 |_=>do
  modify λs=>Az s<|(AD s).push (lo,n,0)
  pure (.yield (none,lo+n))
noncomputable def aHr(size minrun:Nat)(c:Option Unit×Nat):SM (ForInStep<|Option Unit×Nat):=
 if c.2>=size then pure (.done (none,c.2))
 else do
  let f <-countRun' c.2 (size-c.2)
  match f with
  |some found=>
   if found<minrun then do
    liftM (rule "list.sort.binary-insertion")
    let b <-binarySort' c.2 (min (size-c.2) minrun) found
    if(!b)=true then pure (.done (some (),c.2)) else zF c.2 (min (size-c.2) minrun) size
   else zF c.2 found size
  |_=>pure<|.done (some (),c.2)
noncomputable def aKO:SM (ForInStep<|Option Unit×Unit):=do
 let s <-get
 if(AD s).size<=1 then pure (.done (none,()))
 else do
  let b <-mergeAt' (if((if(AD s).size-2>0 then(AD s)[(AD s).size-2-1]?.map (·.2.1) else none).any (·<((AD s)[(AD s).size-2+1]?.elim 0 (·.2.1))))=true then(AD s).size-2-1 else(AD s).size-2)
  if(!b)=true then pure (.done (some (),())) else pure (.yield (none,()))
noncomputable def srM:SM Unit:=do
 let s <-get
 let c <-forIn [:(AJ s).size] ((none,0):Option Unit×Nat) λ_ c=>aHr (AJ s).size (minRun' (AJ s).size (AJ s).size 0) c
 match c.1 with
 |some r=>pure r
 |none=>do
  let d <-forIn [:(AJ s).size] ((none,()):Option Unit×Unit) λ_ _=>aKO
  match d.1 with
  |some r=>pure r
  |none=>pure ()
theorem aMu:sortRuns'=srM:=by kernel_rfl
variable {xs:Array AG}
theorem aCo{i j t:Nat}(h:i+t<j)(hj:j<=xs.size):rkA r (xs.extract i j) t=rkA r xs (i+t):=by refine hG ?_;rw[Array.getElem?_extract,if_pos<|by omega]
theorem aGU(sa t:Nat):∀ (l:List AG) (n:Nat) (xs:Array AG),sa+n+l.length<=xs.size->((l.zipIdx n).foldl (λa (q:AG×Nat)=>a.setIfInBounds (sa+q.2) q.1) xs)[t]? =if sa+n<=t/\t<sa+n+l.length then l[t-(sa+n)]? else xs[t]?
 |[],n,xs,_=>by rw[if_neg<|by rw[fO];omega];rfl
 |p::l,n,xs,h=>by
  rw[bU] at h
  have S:(xs.setIfInBounds (sa+n) p)[t]? =if sa+n=t then some p else xs[t]? :=by
   rw[Array.getElem?_setIfInBounds]
   by_cases e:sa+n=t
   ·rw[if_pos e,if_pos e,if_pos<|by omega]
   ·rw[if_neg e,if_neg e]
  rw[List.zipIdx_cons,List.foldl_cons,aGU sa t l (n+1) _ (by rw[Array.size_setIfInBounds];omega),bU,S]
  by_cases e:sa+n=t
  ·rw[if_neg (show ¬ (sa+(n+1)<=t/\t<sa+(n+1)+l.length) by omega),if_pos e,if_pos (show sa+n<=t/\t<sa+n+(l.length+1) by omega),show t-(sa+n)=0 by omega];rfl
  ·by_cases q:sa+(n+1)<=t/\t<sa+(n+1)+l.length
   ·rw[if_pos q,if_pos (show sa+n<=t/\t<sa+n+(l.length+1) by omega),show t-(sa+n)=t-(sa+(n+1))+1 by omega,List.getElem?_cons_succ]
   ·rw[if_neg q,if_neg e,if_neg (show ¬ (sa+n<=t/\t<sa+n+(l.length+1)) by omega)]
theorem aKL{sa:Nat}{m:Array AG}(h:sa+m.size<=xs.size)(t:Nat):(wbA sa m xs)[t]? =if sa<=t/\t<sa+m.size then m[t-sa]? else xs[t]? :=by have:=aGU sa t m.toList 0 xs (by simpa using h);unfold wbA;rw[this];simp
theorem aJD{sa:Nat}{m:Array AG}(h:sa+m.size<=xs.size):(wbA sa m xs).toList=xs.toList.take sa++(m.toList++xs.toList.drop (sa+m.size)):=by
 apply tP;intro t;rw[dG,aKL h];have l1:(xs.toList.take sa).length=sa:=by rw[cH];simp;omega
 by_cases h1:t<sa
 ·rw[if_neg<|by omega,cU (by rw[l1];exact h1),aAy h1,dG]
 ·rw[dH (by rw[l1];omega),l1]
  by_cases h2:t<sa+m.size
  ·rw[if_pos ⟨by omega,h2⟩,cU (by simp;omega),dG]
  ·rw[if_neg<|by omega,dH (by simp;omega),aGB,bZ];rw[show sa+m.size+(t-sa-m.size)=t by omega,dG]
theorem aBB{sa:Nat}(h:sa+n<=xs.size):xs.toList=xs.toList.take sa++((xs.extract sa<|sa+n).toList++xs.toList.drop (sa+n)):=by
 rw[dJ,cV,show sa+n-sa=n by omega];have e:xs.toList.drop (sa+n)=(xs.toList.drop sa).drop n:=by rw[aMU]
 rw[e,iF,iF]
theorem aIs{sa:Nat}{m:Array AG}(h:sa+m.size<=xs.size)(hp:m.toList.Perm (xs.extract sa<|sa+m.size).toList):(wbA sa m xs).Perm xs:=by apply gA.mpr;rw[aJD h];refine List.Perm.trans ?_<|List.Perm.of_eq (aBB (xs:=xs) h).symm;exact List.Perm.append_left _<|List.Perm.append_right _ hp
theorem aJM{i j:Nat}(h1:i<=j)(h2:j<=k)(h3:k<=xs.size):(xs.extract i j).toList++(xs.extract j k).toList=(xs.extract i k).toList:=by simp only[dJ,cV];rw[show k-i=(j-i)+(k-j) by omega,List.take_add,aMU,show i+(j-i)=j by omega]
theorem aJk{st2:BL}{Q:PUnit->BL->Prop}(h:Q ⟨⟩ st2):wpS (AH prog w) A E s (set st2:StateT BL Sem PUnit) Q st:=by unfold wpS;rw[StateT.run_set];exact AB ⟨rfl,h⟩
theorem aAx{i sa pw sb pw':Nat}{Q:Bool->BL->Prop}(K:kX prog w A E s κ r a₀)(hB:SB κ a₀ st)(p1:(AD st)[i]? =some (sa,na,pw))(p2:(AD st)[i+1]? =some (sb,nb,pw'))(hs:sb=sa+na)(n1:1<=na)(n2:1<=nb)(hz:sb+nb<=a₀.size)
  (A1:AscR r (AJ st) sa sb) (A2:AscR r (AJ st) sb (sb+nb))
  (h:∀st',SB κ a₀ st'->AD st'=((AD st).setIfInBounds i (sa,na+nb,pw)).eraseIdxIfInBounds (i+1)->(∀k,k<sa\/sb+nb<=k->(AJ st')[k]? =(AJ st)[k]?)->AscR r (AJ st') sa (sb+nb)->Q true st'):wpS (AH prog w) A E s (mergeAt' i) Q st:=by
 have sz:=hB.size;have mem:∀x∈(AJ st).toList,x∈a₀.toList:=λx hx=>(gA.mp hB.perm).mem_iff.mp hx
 rw[aLR];unfold mgA;refine AE<|wpS_get ?_;rw[p1,p2];dsimp only;refine AE<|aJk ?_;have hB1:SB κ a₀ (Az st (((AD st).setIfInBounds i (sa,na+nb,pw)).eraseIdxIfInBounds<|i+1)):=⟨hB.perm,hB.kind,hB.failed⟩
 have h1:∀st',SameG (Az st (((AD st).setIfInBounds i (sa,na+nb,pw)).eraseIdxIfInBounds<|i+1)) st'->AscR r (AJ st) sa (sb+nb)->Q true st':=λst' S a=>by refine h st' ⟨by rw[S.arr];exact hB.perm,by rw[S.kind];exact hB.kind,by rw[S.failed];exact hB.failed⟩ S.pend (λk _=>by rw[S.arr]) ?_;rw[S.arr];exact a
 have hsb:sb<(AJ st).size:=by omega
 refine AE<|eA hsb (AE<|pG K hB1.kind mem (mem _<|by simp) (by omega) (by omega) (by rw[<-hs];exact A1) (λj hj e=> ?_) λk c1 c2 c3=> ?_)
 ·rw[<-dQ (r:=r) hsb] at e;exact hB.ne K (i:=sa+j) (j:=sb) (by omega) (by omega) (by omega) e
 rw[<-dQ (r:=r) hsb] at c2 c3
 have c2':∀j,sa<=j->j<sa+k->rkA r (AJ st) j<rkA r (AJ st) sb:=λj j1 j2=>by
  have:=c2 (j-sa)<|by omega
  rwa[show sa+(j-sa)=j by omega] at this
 have c3':∀j,sa+k<=j->j<sb->rkA r (AJ st) sb<rkA r (AJ st) j:=λj j1 j2=>by
  have:=c3 (j-sa) (by omega)<|by omega
  rwa[show sa+(j-sa)=j by omega] at this
 have A2l:∀j,sb<=j->j<sb+nb->rkA r (AJ st) sb<=rkA r (AJ st) j:=λj j1 j2=>by
  by_cases e:j=sb
  ·rw[e];exact aP _
  ·exact dN<|A2 sb j (aP _) (by omega) j2
 dsimp only;unfold mgB
 by_cases e0:na-k=0
 ·rw[if_pos<|by simpa using e0];refine AI (h1 _ (.refl _) λi j i1 ij j1=> ?_)
  by_cases q1:j<sb
  ·exact A1 i j i1 ij q1
  ·by_cases q2:i<sb
   ·exact aV (c2' i i1<|by omega)<|A2l j (by omega) j1
   ·exact A2 i j (by omega) ij j1
 ·rw[if_neg<|by simpa using e0];have ekn:sa+k+(na-k)-1=sb-1:=by omega
  have hkb:sb-1<(AJ st).size:=by omega
  rw[ekn];refine AE<|eA hkb (AE<|pG K hB1.kind mem (mem _<|by simp) (by omega) (by omega) A2 (λj hj e=> ?_) λn2' d1 d2 d3=> ?_)
  ·rw[<-dQ (r:=r) hkb] at e;exact hB.ne K (i:=sb+j) (j:=sb-1) (by omega) (by omega) (by omega) e
  rw[<-dQ (r:=r) hkb] at d2 d3
  have d2':∀j,sb<=j->j<sb+n2'->rkA r (AJ st) j<rkA r (AJ st) (sb-1):=λj j1 j2=>by
   have:=d2 (j-sb)<|by omega
   rwa[show sb+(j-sb)=j by omega] at this
  have d3':∀j,sb+n2'<=j->j<sb+nb->rkA r (AJ st) (sb-1)<rkA r (AJ st) j:=λj j1 j2=>by
   have:=d3 (j-sb) (by omega)<|by omega
   rwa[show sb+(j-sb)=j by omega] at this
  have n2p:n2'≠0:=λz=>by subst z;have a:=d3' sb (by omega) (by omega);have b:=c3' (sb-1) (by omega) (by omega);omega
  dsimp only;rw[if_neg<|by simpa using n2p];unfold mgC
  have M:MPre r a₀ ((AJ st).extract (sa+k) sb) ((AJ st).extract sb<|sb+n2'):=by
   have s1:((AJ st).extract (sa+k) sb).size=sb-(sa+k):=by rw[jI];omega
   have s2:((AJ st).extract sb<|sb+n2').size=n2':=by rw[jI];omega
   have e1:∀t,t<sb-(sa+k)->rkA r ((AJ st).extract (sa+k) sb) t=rkA r (AJ st) (sa+k+t):=λt ht=>aCo (by omega)<|by omega
   have e2:∀t,t<n2'->rkA r ((AJ st).extract sb<|sb+n2') t=rkA r (AJ st) (sb+t):=λt ht=>aCo (by omega)<|by omega
   refine⟨by omega,by omega,λi j _ ij j1=> ?_,λi j _ ij j1=> ?_,λx hx=> ?_,λx hx=> ?_,λi j i1 j1=> ?_, ?_, ?_⟩
   ·rw[s1] at j1;rw[e1 i<|by omega,e1 j j1];exact A1 _ _ (by omega) (by omega)<|by omega
   ·rw[s2] at j1;rw[e2 i<|by omega,e2 j j1];exact A2 _ _ (by omega) (by omega)<|by omega
   ·rw[dJ,cV] at hx;exact mem x (aEX<|gN hx)
   ·rw[dJ,cV] at hx;exact mem x (aEX<|gN hx)
   ·rw[s1] at i1;rw[s2] at j1;rw[e1 i i1,e2 j j1];exact hB.ne K (by omega) (by omega)<|by omega
   ·rw[e1 0<|by omega,e2 0<|by omega];exact c3' _ (by omega)<|by omega
   ·rw[s1,s2,e1 _<|by omega,e2 _<|by omega,show sa+k+(sb-(sa+k)-1)=sb-1 by omega];exact d2' _ (by omega)<|by omega
  have fin:∀out st',MD r ((AJ st).extract (sa+k) sb) ((AJ st).extract sb (sb+n2')) out.toList→SameG (Az st (((AD st).setIfInBounds i (sa,na+nb,pw)).eraseIdxIfInBounds (i+1))) st'→wpS (AH prog w) A E s (do
    modify λs=>setArr s (wbA (sa+k) out<|AJ s)
    let s <-get
    pure (failedOf s).isNone) Q st':=λout st' D S=>by
   refine AE (Au<|AE (wpS_get<|AI ?_))
   have ep:out.toList.Perm ((AJ st).extract (sa+k)<|sb+n2').toList:=by
    have:=D.1
    rwa[aJM (by omega) (by omega)<|by omega] at this
   have sO:out.size=sb+n2'-(sa+k):=by have:=ep.length_eq;rw[bZ,bZ,jI] at this;omega
   have hz2:sa+k+out.size<=(AJ st).size:=by omega
   have ep2:out.toList.Perm ((AJ st).extract (sa+k)<|sa+k+out.size).toList:=by rw[sO,show sa+k+(sb+n2'-(sa+k))=sb+n2' by omega];exact ep
   have ff:failedOf (setArr st' (wbA (sa+k) out<|AJ st'))=none:=by show failedOf st'=none;rw[S.failed];exact hB.failed
   rw[ff];have arr':AJ st'=AJ st:=S.arr
   have at_:∀t,(AJ<|setArr st' (wbA (sa+k) out<|AJ st'))[t]? =if sa+k<=t/\t<sb+n2' then out[t-(sa+k)]? else(AJ st)[t]? :=λt=>by show(wbA (sa+k) out<|AJ st')[t]? =_;rw[arr',aKL hz2,sO,show sa+k+(sb+n2'-(sa+k))=sb+n2' by omega]
   refine h _ ⟨?_, ?_,ff⟩ ?_ (λt ht=>by rw[at_,if_neg<|by omega]) ?_
   ·show(wbA (sa+k) out<|AJ st').Perm a₀;rw[arr'];exact(aIs hz2 ep2).trans hB.perm
   ·show kindOf st'=κ;rw[S.kind];exact hB.kind
   ·show AD st'=_;rw[S.pend]
   ·have rin:∀t,sa+k<=t->t<sb+n2'->rkA r (AJ<|setArr st' (wbA (sa+k) out<|AJ st')) t=rkA r out (t-(sa+k)):=λt t1 t2=>hG (by rw[at_,if_pos ⟨t1,t2⟩])
    have rout:∀t,t<sa+k\/sb+n2'<=t->rkA r (AJ<|setArr st' (wbA (sa+k) out<|AJ st')) t=rkA r (AJ st) t:=λt ht=>hG (by rw[at_,if_neg<|by omega])
    have mo:∀u,u<out.size->∃v,sa+k<=v/\v<sb+n2'/\rkA r out u=rkA r (AJ st) v:=λu hu=>by
     have hm:out[u]∈((AJ st).extract (sa+k)<|sb+n2').toList:=ep.mem_iff.mp (by simp);obtain⟨v,hv,ev⟩:=cI hm
     have hv':v<sb+n2'-(sa+k):=by have:=hv;rw[bZ,jI] at this;omega
     refine⟨sa+k+v,by omega,by omega, ?_⟩;rw[dQ hu,<-ev,<-aCo (xs:=AJ st) (i:=sa+k) (j:=sb+n2') (t:=v) (by omega) (by omega)];rw[dQ<|by rw[jI];omega];simp
    have asO:∀u v,u<v->v<out.size->rkA r out u<rkA r out v:=λu v uv hv=>by have:=(aAc.mp D.2) u v (by simp;omega) (by simpa using hv) uv;rw[dQ<|by omega,dQ hv];simpa using this
    have low:∀t u,sa<=t->t<sa+k->u<out.size->rkA r (AJ st) t<rkA r out u:=λt u t1 t2 hu=>by
     obtain⟨v,v1,v2,ev⟩:=mo u hu;rw[ev]
     by_cases q:v<sb
     ·exact A1 t v t1 (by omega) q
     ·exact aV (c2' t t1 t2) (A2l v (by omega)<|by omega)
    have high:∀t u,sb+n2'<=t->t<sb+nb->u<out.size->rkA r out u<rkA r (AJ st) t:=λt u t1 t2 hu=>by
     obtain⟨v,v1,v2,ev⟩:=mo u hu;rw[ev]
     by_cases q:v<sb
     ·refine dC ?_ (d3' t t1 t2)
      by_cases e:v=sb-1
      ·rw[e];exact aP _
      ·exact dN (A1 v (sb-1) (by omega) (by omega)<|by omega)
     ·exact A2 v t (by omega) (by omega) t2
    intro u v u1 uv v1
    by_cases q1:u<sa+k
    ·rw[rout u<|.inl q1]
     by_cases q2:v<sa+k
     ·rw[rout v<|.inl q2];exact A1 u v u1 uv<|by omega
     ·by_cases q3:v<sb+n2'
      ·rw[rin v (by omega) q3];exact low _ _ u1 q1<|by omega
      ·rw[rout v (.inr<|by omega)];exact aV (c2' u u1 q1)<|A2l v (by omega) v1
    ·by_cases q2:u<sb+n2'
     ·rw[rin u (by omega) q2]
      by_cases q3:v<sb+n2'
      ·rw[rin v (by omega) q3];exact asO _ _ (by omega)<|by omega
      ·rw[rout v (.inr<|by omega)];exact high _ _ (by omega) v1<|by omega
     ·rw[rout u (.inr<|by omega),rout v (.inr<|by omega)];exact A2 u v (by omega) uv v1
  dsimp only
  split
  ·exact AE<|aAp K hB1.kind M fin
  ·exact AE<|aAv K hB1.kind M fin
noncomputable def Runs(r:AG->Nat)(xs:Array AG):Nat->List (Nat×Nat×Nat)->Nat->Prop
 |s,[],e=>s=e
 |s,p::l,e=>p.1=s/\1<=p.2.1/\AscR r xs s (s+p.2.1)/\Runs r xs (s+p.2.1) l e
variable {ys:Array AG}
theorem AscR.keep{s e:Nat}(h:AscR r xs s e)(k:∀t,s<=t->t<e->ys[t]? =xs[t]?):AscR r ys s e:=λi j hi hij hj=>by rw[hG (k i hi<|by omega),hG<|k j (by omega) hj];exact h i j hi hij hj
theorem Runs.le:∀ {l:List (Nat×Nat×Nat)}{s e:Nat},Runs r xs s l e->s+l.length<=e
 |[],s,e,h=>by rw[show s=e from h];exact aP _
 |p::l,s,e,⟨_,h1,_,h2⟩=>by have:=h2.le;rw[bU];omega
theorem Runs.keep:∀ {l:List (Nat×Nat×Nat)}{s e:Nat},Runs r xs s l e->(∀t,s<=t->t<e->ys[t]? =xs[t]?)->Runs r ys s l e
 |[],_,_,h,_=>h
 |p::l,s,e,⟨h0,h1,h2,h3⟩,k=>by have:=h3.le;exact⟨h0,h1,h2.keep λt t1 t2=>k t t1<|by omega,h3.keep λt t1 t2=>k t (by omega) t2⟩
theorem Runs.split:∀ {l1 l2:List (Nat×Nat×Nat)}{s e:Nat},Runs r xs s (l1++l2) e->∃m,Runs r xs s l1 m/\Runs r xs m l2 e
 |[],l2,s,e,h=>⟨s,rfl,h⟩
 |p::l1,l2,s,e,⟨h0,h1,h2,h3⟩=>by obtain⟨m,a,b⟩:=Runs.split h3;exact⟨m,⟨h0,h1,h2,a⟩,b⟩
theorem Runs.app:∀ {l1 l2:List (Nat×Nat×Nat)}{s m e:Nat},Runs r xs s l1 m->Runs r xs m l2 e->Runs r xs s (l1++l2) e
 |[],l2,s,m,e,h,h2=>by rw[show s=m from h];exact h2
 |p::l1,l2,s,m,e,⟨h0,h1,h2,h3⟩,b=>⟨h0,h1,h2,Runs.app h3 b⟩
theorem Runs.pow{l1:List (Nat×Nat×Nat)}{x y:Nat×Nat×Nat}{s e:Nat}(h:Runs r xs s (l1++[x]) e)(h1:y.1=x.1)(h2:y.2.1=x.2.1):Runs r xs s (l1++[y]) e:=by obtain⟨m,a,b⟩:=h.split;refine a.app ?_;obtain⟨b0,b1,b2,b3⟩:=b;exact⟨h1.trans b0,by rw[h2];exact b1,by rw[h2];exact b2,by rw[h2];exact b3⟩
theorem aHg{p:Pnd}{i:Nat}(h:i+1<p.size)(v:Nat×Nat×Nat):p.toList=p.toList.take i++p[i]::p[i+1]::p.toList.drop (i+2)/\((p.setIfInBounds i v).eraseIdxIfInBounds<|i+1).toList=p.toList.take i++v::p.toList.drop (i+2):=by
 have e1:p.toList=p.toList.take i++p[i]::p[i+1]::p.toList.drop (i+2):=by
  have a:p.toList.drop i=p[i]::p.toList.drop (i+1):=by rw[eJ<|by simp;omega];simp
  have b:p.toList.drop (i+1)=p[i+1]::p.toList.drop (i+1+1):=by rw[eJ<|by simp;omega];simp
  rw[<-b,<-a,iF]
 refine⟨e1, ?_⟩;have l1:(p.toList.take i).length=i:=by rw[cH];simp;omega
 rw[Array.toList_eraseIdxIfInBounds,Array.toList_setIfInBounds];generalize p.toList.take i=u at e1 l1;generalize p.toList.drop (i+2)=z at e1;rw[e1];rw[List.set_append_right _ _<|by omega,l1,tV,List.set_cons_zero,List.eraseIdx_append_of_length_le<|by omega,l1,show i+1-i=1 by omega];rfl
theorem aDA{i e:Nat}{Q:Bool->BL->Prop}(K:kX prog w A E s κ r a₀)(hB:SB κ a₀ st)(R:Runs r (AJ st) 0 (AD st).toList e)(he:e<=a₀.size)(hi:i+1<(AD st).size)
  (h:∀st',SB κ a₀ st'->Runs r (AJ st') 0 (AD st').toList e->(AD st').size+1=(AD st).size->(∀k,e<=k->(AJ st')[k]? =(AJ st)[k]?)->Q true st'):wpS (AH prog w) A E s (mergeAt' i) Q st:=by
 obtain⟨e1,_⟩:=aHg hi (0,0,0);have R0:=R;rw[e1] at R0;obtain⟨m,R1,a1,a2,a3,b1,b2,b3,R2⟩:=R0.split
 have h1:(AD st)[i]? =some (m,(AD st)[i].2.1,(AD st)[i].2.2):=by rw[getElem?_pos _ i<|by omega];refine congrArg some ?_;rw[<-a1]
 have h2:(AD st)[i+1]? =some (m+(AD st)[i].2.1,(AD st)[i+1].2.1,(AD st)[i+1].2.2):=by rw[getElem?_pos _ (i+1)<|by omega];refine congrArg some ?_;rw[<-b1]
 have l2:=R2.le;have l1:=R1.le;refine aAx K hB h1 h2 rfl a2 b2 (by omega) a3 b3 λst' hB' hp hk ha=> ?_
 obtain⟨_,e2⟩:=aHg hi (m,(AD st)[i].2.1+(AD st)[i+1].2.1,(AD st)[i].2.2);have ep:(AD st').toList=(AD st).toList.take i++(m,(AD st)[i].2.1+(AD st)[i+1].2.1,(AD st)[i].2.2)::(AD st).toList.drop (i+2):=by rw[hp];exact e2
 refine h st' hB' ?_ ?_ λk hk2=>hk k (.inr<|by omega)
 ·rw[ep];refine(R1.keep λt _ t2=>hk t<|.inl t2).app ⟨rfl,by show 1<=_+_;omega, ?_, ?_⟩
  ·show AscR r (AJ st') m (m+(_+_));rw[<-aOq];exact ha
  ·show Runs r (AJ st') (m+(_+_)) _ e;rw[<-aOq];exact R2.keep λt t1 _=>hk t<|.inr t1
 ·have:=congrArg pQ ep;have q:=congrArg pQ e1;simp only[bZ,aN,bU] at this q;omega
structure SR(κ:Aq)(r:AG->Nat)(a₀:Array AG)(lo:Nat)(st:BL):Prop where
 sb:SB κ a₀ st
 runs:Runs r (AJ st) 0 (AD st).toList lo
theorem aBp{lo:Nat}{Q:ForInStep (Option Unit×Nat)->BL->Prop}(K:kX prog w A E s κ r a₀)(S:SR κ r a₀ lo st)(n1:1<=n)(hn:lo+n<=a₀.size)(ha:AscR r (AJ st) lo (lo+n))(h:∀st',SR κ r a₀ (lo+n) st'->Q (.yield (none,lo+n)) st'):wpS (AH prog w) A E s (zF lo n a₀.size) Q st:=by
 unfold zF;refine AE<|wpS_get ?_
 have fin:∀st',SR κ r a₀ lo st'->AscR r (AJ st') lo (lo+n)->SR κ r a₀ (lo+n) (Az st'<|(AD st').push (lo,n,0)):=λst' S' ha'=>by refine⟨⟨S'.sb.perm,S'.sb.kind,S'.sb.failed⟩, ?_⟩;show Runs r (AJ st') 0 ((AD st').push (lo,n,0)).toList (lo+n);rw[jR];exact S'.runs.app ⟨rfl,n1,ha',rfl⟩
 cases hb:(AD st).back? with
 |none=>exact AE (Au<|AI (h _<|fin st S ha))
 |some p=>
  obtain⟨s1,n1',p1⟩:=p;dsimp only;generalize power' a₀.size (2*s1+n1') (2*s1+n1'+n1'+n) a₀.size=pw
  have ne0:1<=(AD st).size:=by
   rcases Nat.eq_zero_or_pos (AD st).size with z|z
   ·rw[Array.eq_empty_of_size_eq_zero z] at hb;cases hb
   ·exact z
  refine AE<|Ab (AU (I:=λ_ c st'=>c=(none,())/\SR κ r a₀ lo st'/\1<=(AD st').size/\AscR r (AJ st') lo (lo+n)) (Q:=λc st'=>c=(none,())/\SR κ r a₀ lo st'/\1<=(AD st').size/\AscR r (AJ st') lo (lo+n)) ?step (λ_ _ z=>z) ⟨rfl,S,ne0,ha⟩) ?post
  case step=>
   rintro x c st' _ hx ⟨rfl,S',ne',ha'⟩;unfold aOK;refine AE<|wpS_get ?_
   by_cases q:(AD st').size>1
   ·rw[if_pos q,getElem?_pos _ _<|by omega];dsimp only
    split
    ·exact AI ⟨rfl,S',ne',ha'⟩
    ·refine AE<|aDA K S'.sb S'.runs (by omega) (by omega) λst'' hB hr hs hk=> ?_;rw[if_neg<|by decide];exact AI ⟨rfl,⟨hB,hr⟩,by omega,ha'.keep λt t1 _=>hk t t1⟩
   ·rw[if_neg q];exact AI ⟨rfl,S',ne',ha'⟩
  case post=>
   rintro c st' ⟨rfl,S',ne',ha'⟩;dsimp only;refine AE (Au<|AE (Au<|AI (h _<|fin (Az st'<|(AD st').modify ((AD st').size-1) λ(x:Nat×Nat×Nat)=>(x.1,x.2.1,pw)) ⟨⟨S'.sb.perm,S'.sb.kind,S'.sb.failed⟩, ?_⟩ ha')));show Runs r (AJ st') 0 ((AD st').modify ((AD st').size-1) λ(x:Nat×Nat×Nat)=>(x.1,x.2.1,pw)).toList lo
   have hl:(AD st').toList≠[]:=λz=>by have:=congrArg pQ z;rw[bZ,fO] at this;omega
   have e1:=(fP hl).symm;have R:=S'.runs;rw[e1] at R
   have e2:((AD st').modify ((AD st').size-1) λ(x:Nat×Nat×Nat)=>(x.1,x.2.1,pw)).toList=(AD st').toList.dropLast++[(((AD st').toList.getLast hl).1,((AD st').toList.getLast hl).2.1,pw)]:=by
    apply tP;intro t;rw[dG,aCg];have ld:(AD st').toList.dropLast.length=(AD st').size-1:=by simp
    by_cases q:(AD st').size-1=t
    ·rw[if_pos q,dH (by rw[ld];omega),ld,q,tV,<-q];rw[List.getLast_eq_getElem];have:(AD st').size-1<(AD st').size:=by omega
     simp[this]
    ·rw[if_neg q]
     by_cases q2:t<(AD st').size-1
     ·rw[cU (by rw[ld];exact q2),List.getElem?_dropLast,if_pos (by simpa using q2),dG]
     ·rw[dH (by rw[ld];omega),ld];rw[aBv<|by omega,iD<|by simp;omega]
   rw[e2];exact R.pow rfl rfl
theorem aDN{Q:Unit->BL->Prop}(K:kX prog w A E s κ r a₀)(hB:SB κ a₀ st)(hp:AD st= #[])(h:∀st',SB κ a₀ st'->AscR r (AJ st') 0 a₀.size->Q () st'):wpS (AH prog w) A E s sortRuns' Q st:=by
 rw[aMu];unfold srM;refine AE<|wpS_get ?_;have sz:=hB.size;rw[sz];generalize minRun' a₀.size a₀.size 0=minrun;refine AE<|Ab (AU (I:=λx c st'=>∃lo,c=(none,lo)/\SR κ r a₀ lo st'/\lo<=a₀.size/\(x<=lo\/lo=a₀.size)) (Q:=λc st'=>c=(none,a₀.size)/\SR κ r a₀ a₀.size st') ?step ?fin ⟨0,rfl,⟨hB,by rw[hp];rfl⟩,bP _,.inl<|aP _⟩) ?post
 case fin=>
  rintro c st' ⟨lo,rfl,S,h1,h2⟩;have:lo=a₀.size:=by omega
  subst this;exact⟨rfl,S⟩
 case step=>
  rintro x c st' _ hx ⟨lo,rfl,S,h1,h2⟩;unfold aHr;dsimp only
  by_cases q:lo>=a₀.size
  ·rw[if_pos q];have:lo=a₀.size:=by omega
   subst this;exact AI ⟨rfl,S⟩
  ·rw[if_neg q];refine AE<|aBA K S.sb (by omega) (by omega) λm st2 m1 m2 T ha=> ?_;have S2:SR κ r a₀ lo st2:=⟨T.sb,by rw[T.pend];exact S.runs.keep λt _ t2=>T.keep t<|.inl t2⟩;dsimp only
   by_cases z:m<minrun
   ·rw[if_pos z];refine AE (wpS_lift<|At ⟨rfl, ?_⟩);refine AE<|aFr K S2.sb (by omega) (by omega) ha λst3 T3 ha3=> ?_;rw[if_neg<|by decide];refine aBp K ⟨T3.sb,by rw[T3.pend];exact S2.runs.keep λt _ t2=>T3.keep t<|.inl t2⟩ (by omega) (by omega) ha3 λst4 S4=>⟨_,rfl,S4,by omega,.inl<|by omega⟩
   ·rw[if_neg z];exact aBp K S2 m1 (by omega) ha λst4 S4=>⟨_,rfl,S4,by omega,.inl<|by omega⟩
 case post=>
  rintro c st' ⟨rfl,S⟩;dsimp only
  have pl:(AD st').size<=a₀.size:=by have:=S.runs.le;simpa using this
  refine AE<|Ab (AU (I:=λx c st''=>c=(none,())/\SR κ r a₀ a₀.size st''/\(AD st'').size<=a₀.size-x) (Q:=λc st''=>c=(none,())/\SR κ r a₀ a₀.size st''/\(AD st'').size<=1) ?step2 ?fin2 ⟨rfl,S,by omega⟩) ?post2
  case fin2=>rintro c st'' ⟨rfl,S,h1⟩;exact⟨rfl,S,by omega⟩
  case step2=>
   rintro x c st'' _ hx ⟨rfl,S,h1⟩;unfold aKO;refine AE<|wpS_get ?_
   by_cases q:(AD st'').size<=1
   ·rw[if_pos q];exact AI ⟨rfl,S,q⟩
   ·rw[if_neg q];have go:∀i,i+1<(AD st'').size->wpS (AH prog w) A E s (mergeAt' i) (λb st'=>b=true/\SR κ r a₀ a₀.size st'/\(AD st').size<=a₀.size-(x+1)) st'':=λi hi=>aDA K S.sb S.runs (aP _) hi λst3 hB3 hr hs hk=>⟨rfl,⟨hB3,hr⟩,by omega⟩
    refine AE<|Ab (go _ ?_) λb st3 hb=> ?_
    ·have bd:∀c:Bool,(if c=true then(AD st'').size-2-1 else(AD st'').size-2)+1<(AD st'').size:=λc=>by
      cases c
      ·rw[if_neg<|by decide];omega
      ·rw[if_pos rfl];omega
     exact bd _
    ·obtain⟨rfl,S3,h3⟩:=hb;rw[if_neg<|by decide];exact AI ⟨rfl,S3,h3⟩
  case post2=>
   rintro c st'' ⟨rfl,S,h1⟩;refine AI<|h st'' S.sb ?_;have R:=S.runs;generalize e:(AD st'').toList=l at R;have ll:l.length<=1:=by rw[<-e];simpa using h1
   match l,ll with
   |[],_=>have:0=a₀.size:=R;intro i j _ _ hj;omega
   |[p],_=>obtain⟨_,_,b,c⟩:=R;have c:0+p.2.1=a₀.size:=c;rw[c] at b;exact b
open PySem.W (KasT kas_sort kas_asc kas_desc kas_tail3 kas_descPart kas_count kas_place kas_bin kas_rev kas_ask kas_item kat_lt kat_cons kat_nil kat_yes kat_no kat_one kat_kind kat_run kat_snds KatTups)
open PySem.W (KasT kas_sort kas_asc kas_desc kas_tail3 kas_descPart kas_count kas_place kas_bin kas_rev)
open PySem.W (KasT kas_sort kas_asc kas_desc kas_tail3 kas_descPart kas_count kas_place kas_bin kas_rev kas_ask kas_item kat_lt kat_cons kat_nil kat_yes kat_no kat_one kat_kind kat_run kat_snds KatTups KatLex)
theorem zV{α β:Type}{f:α->β}{l:List α}{l':List β}(h:l'.Perm (l.map f)):∃l2:List α,l2.Perm l/\l'=l2.map f:=by
 generalize hy:l.map f=y at h
 induction h generalizing l with
 |nil=>
  have:l=[]:=by simpa using hy
  subst this;exact⟨[],.refl _,rfl⟩
 |cons x p ih=>
  cases l with
  |nil=>simp at hy
  |cons a t=>simp only[bA,uP.injEq] at hy;obtain⟨l3,q1,q2⟩:=ih hy.2;exact⟨a::l3,q1.cons a,by rw[bA,hy.1,q2]⟩
 |swap x y l0=>
  match l,hy with
  |a::b::t,hy=>simp only[bA,uP.injEq] at hy;exact⟨b::a::t,List.Perm.swap a b t,by rw[bA,bA,hy.1,hy.2.1,hy.2.2]⟩
  |[a],hy=>simp at hy
  |[],hy=>simp at hy
 |trans p1 p2 ih1 ih2=>obtain⟨l3,q1,q2⟩:=ih2 hy;obtain⟨l4,r1,r2⟩:=ih1 q2.symm;exact⟨l4,r1.trans q1,r2⟩
variable {a b:Expr}
noncomputable def nF(k:List Key):D:=.tup<|k.map kD
noncomputable def nL(h:BI)(a:BG)(vs:List BE):BI:=((h.update a<|Obj.mapSeq λ_=> #[]).push<|Ag "tuple" vs.toArray 0).push<|Ag "list" #[] 0
theorem rW(vs:List BE):(vs.toArray.zip vs.toArray).toList=vs.map λv=>(v,v):=by
 rw[Array.toList_zip];show vs.zip vs=_
 induction vs with
 |nil=>rfl
 |cons v vs ih=>rw[dM,ih];rfl
theorem aJJ{rk:BE->Nat}{vs:List BE}(nd:(vs.map rk).Nodup)(hask:∀x∈vs,∀y∈vs,∀ (Q:Bool->BF->Prop) (E':BE->BF->Prop),Q (decide<|rk x<rk y) s->AK (AH prog w) A (keyLt' κ x y) Q E' s):kX prog w A E s κ (λp=>rk p.1) (vs.toArray.zip vs.toArray):=by
 refine⟨λ{x y st Q} hx hy hk h=> ?_, ?_⟩
 ·rw[rW] at hx hy;obtain⟨u,hu,rfl⟩:=aQ.mp hx;obtain⟨v,hv,rfl⟩:=aQ.mp hy;rw[lt'_eq];refine AE<|wpS_get ?_;rw[hk];exact AE<|wpS_lift (wpAny_attempt<|hask u hu v hv _ _ ⟨rfl,AI h⟩)
 ·rw[rW,bB];exact nd
theorem xK{a:BG}{vs:List BE}{rk:BE->Nat}{R:PySem.Fin->BF->Prop}(ho:s.heap.get? a=some (Ag "list" vs.toArray n))(nd:(vs.map rk).Nodup)(hn:vs.length<=10000)
  (hkind:2<=vs.length->∀ (Q:Aq->BF->Prop),Q κ ⟨nL s.heap a vs,s.gens,s.drawn,s.toks,s.os⟩->AK (AH prog w) A (keyKind' vs.toArray) Q E ⟨nL s.heap a vs,s.gens,s.drawn,s.toks,s.os⟩)
  (hask:∀x∈vs,∀y∈vs,∀ (Q:Bool->BF->Prop) (E':BE->BF->Prop),Q (decide<|rk x<rk y) ⟨nL s.heap a vs,s.gens,s.drawn,s.toks,s.os⟩->AK (AH prog w) A (keyLt' κ x y) Q E' ⟨nL s.heap a vs,s.gens,s.drawn,s.toks,s.os⟩)
  (h:∀out:Array BE,out.toList.Perm vs->(out.toList.map rk).Pairwise (·<·)->R (.done<|.ret .none) {s with heap:=sortedHeap s.heap a vs out}):AK (AH prog w) A (Builtin.«list.sort» ⟨[.ref a],[]⟩) R E s:=by
 have lt:a<s.heap.objs.size:=aR ho;have sz:vs.toArray.size=vs.length:=by simp
 obtain⟨n0,g1⟩:∃n0,(s.heap.update a<|Obj.mapSeq λ_=> #[]).get? a=some (Ag "list" #[] n0):=⟨_,get?_update_seq ho λ_=> #[]⟩
 have n1:a≠((s.heap.update a<|Obj.mapSeq λ_=> #[]).push<|Ag "tuple" vs.toArray 0).objs.size:=by rw[size_push',nR];exact bN<|mK lt
 have n2:a≠(s.heap.update a<|Obj.mapSeq λ_=> #[]).objs.size:=by rw[nR];exact bN lt
 have g6:(nL s.heap a vs).get? a=some (Ag "list" #[] n0):=by unfold nL;rw[aHO _ _ _ n1,aHO _ _ _ n2,g1]
 rw[list_sort_plain];refine AA (listItems_at ho rfl<|AA (listUpdate_at ho rfl (AA (seqEpoch_at g1 rfl<|AA (wpAny_newTuple (AA (wpAny_newList (Ah ?_)<|bP _))<|by show vs.length<=_;rw[Ap];omega))) (by rw[sz,Ap];omega)<|bP _));show AK (AH prog w) A _ R E ⟨nL s.heap a vs,s.gens,s.drawn,s.toks,s.os⟩;dsimp only
 by_cases h2:vs.toArray.size<2
 ·rw[if_pos h2,if_pos h2];refine AA<|AB ?_;rw[StateT.run_pure];refine AA (AB (AA<|seqEpoch_at g6 rfl (AA<|listUpdate_at g6 rfl ?_ (bP _) ?_)))
  ·simp only[bne_self_eq_false,if_false,bY];refine AB ?_
   have e:Array.map (λ(x:AG)=>x.2) (AJ<|SortSt.mk' general' (vs.toArray.zip vs.toArray) #[] 7 none)=vs.toArray:=by apply tX.mp;rw[tY];show(vs.toArray.zip vs.toArray).toList.map _=vs;rw[rW,bB];exact kR _
   rw[e];refine h vs.toArray (.refl _) ?_;rw[sz] at h2
   match vs,h2 with
   |[],_=>exact .nil
   |[v],_=>exact jM _ _
  ·show(Array.map _<|vs.toArray.zip vs.toArray).size<=_;rw[Array.size_map,Array.size_zip,sz,Ap];omega
 ·rw[if_neg h2,if_neg h2];rw[sz] at h2;refine AA<|hkind (by omega) _ ?_;have K:kX prog w A E ⟨nL s.heap a vs,s.gens,s.drawn,s.toks,s.os⟩ κ (λp=>rk p.1) (vs.toArray.zip vs.toArray):=aJJ nd hask;refine AA<|AY (aDN (Q:=λ_ st'=>SB κ (vs.toArray.zip vs.toArray) st'/\AscR (λp=>rk p.1) (AJ st') 0 (vs.toArray.zip vs.toArray).size) K (st:=SortSt.mk' κ (vs.toArray.zip vs.toArray) #[] 7 none) ⟨Array.Perm.refl _,rfl,rfl⟩ rfl λst' b c=>⟨b,c⟩) ?_ λ_ _ z=>z;rintro⟨⟨⟩,st'⟩ s' ⟨rfl,hB,hA⟩;dsimp only
  have pm:(AJ st').toList.Perm (vs.map λv=>(v,v)):=by
   have:=gA.mp hB.perm
   rwa[rW] at this
  have p2:((AJ st').map (·.2)).toList.Perm vs:=by rw[tY];have:=pm.map (·.2);rw[bB] at this;exact this.trans (List.Perm.of_eq<|kR _)
  have sO:((AJ st').map (·.2)).size=vs.length:=by
   have:=p2.length_eq
   rwa[bZ] at this
  refine AA<|seqEpoch_at g6 rfl (AA<|listUpdate_at g6 rfl ?_ (bP _) ?_)
  ·rw[hB.failed];simp only[bne_self_eq_false,if_false,bY];refine AB<|h _ p2 ?_;rw[tY,bB,aAc];intro i j hi hj hij;rw[aA,bZ] at hi hj;have q:=hA i j (bP _) hij (by rw[<-hB.size];exact hj);rw[dQ hi,dQ hj] at q
   have d:∀p∈(AJ st').toList,p.1=p.2:=λp hp=>by obtain⟨v,_,rfl⟩:=aQ.mp<|pm.mem_iff.mp hp;rfl
   rw[cJ,cJ];have d1:=d (AJ st')[i] (by simp);have d2:=d (AJ st')[j] (by simp);rw[d1,d2] at q;simpa using q
  ·rw[sO,Ap];omega
open PySem.W (kat_lt kat_cons kat_nil kat_yes kat_no kat_one kat_kind KatTups KatLex)
theorem aBF{l:BG}{vs:List BE}{rk:BE->Nat}{Q:BE->BF->Prop}(hl:s.heap.IsList l vs.toArray)(nd:(vs.map rk).Nodup)(hn:vs.length<=10000)
  (hkind:∀t:BF,(∀b o,s.heap.get? b=some o->t.heap.get? b=some o)->2<=vs.length->∀ (A':BH) (R:Aq->BF->Prop) (E':BE->BF->Prop),A'.units<=A.units+2->R κ t->AK (AH prog w) A' (keyKind' vs.toArray) R E' t)
  (hask:∀t:BF,(∀b o,s.heap.get? b=some o->t.heap.get? b=some o)->∀x∈vs,∀y∈vs,∀ (A':BH) (R:Bool->BF->Prop) (E':BE->BF->Prop),A'.units<=A.units+2->R (decide<|rk x<rk y) t->AK (AH prog w) A' (keyLt' κ x y) R E' t)
  (h:∀out:Array BE,out.toList.Perm vs->(out.toList.map rk).Pairwise (·<·)->Q (.ref<|s.heap.objs.size+1) {s with heap:=sortedAll s.heap vs out}):AK (AH prog w) A (call (.builtin "sorted") [.ref l]) Q E s:=by
 have hsz:((s.heap.push<|Ag "list" #[] 0).update s.heap.objs.size (Obj.mapSeq (·++vs.toArray))).objs.size=s.heap.objs.size+1:=by rw[nR,size_push']
 have hoL:(((s.heap.push<|Ag "list" #[] 0).update s.heap.objs.size (Obj.mapSeq (·++vs.toArray))).push<|Ag "list" vs.toArray 0).get? (s.heap.objs.size+1)=some (Ag "list" vs.toArray 0):=by rw[<-hsz];exact bK _ rfl
 have k2:∀b o,s.heap.get? b=some o->(((s.heap.push<|Ag "list" #[] 0).update s.heap.objs.size (Obj.mapSeq (·++vs.toArray))).push<|Ag "list" vs.toArray 0).get? b=some o:=λb o g=>by
  have nb:s.heap.objs.size≠b:=λz=>absurd (aR g) (by rw[<-z];exact eD _)
  refine aJ _ ?_;rw[cO _ _ nb];exact aJ _ g
 have k6:∀b o,s.heap.get? b=some o->(nL (((s.heap.push<|Ag "list" #[] 0).update s.heap.objs.size (Obj.mapSeq (·++vs.toArray))).push<|Ag "list" vs.toArray 0) (s.heap.objs.size+1) vs).get? b=some o:=λb o g=>by
  have nb:s.heap.objs.size+1≠b:=λz=>by have:=aR g;rw[<-z] at this;exact absurd this (oQ.mpr<|iX _)
  unfold nL;refine aJ _<|aJ _ ?_;rw[cO _ _ nb];exact k2 b o g
 refine Calls.call_function_entry kind_sorted plain_sorted entry_sorted (args_sorted1<|.ref l) ?_;unfold Builtin.«sorted»;refine AA (m:=checkCount "sorted" 1 1 _) (AB<|AA (collect_list hl (AA (wpAny_newList ?_<|by rw[Ap];omega))<|by rw[Ap];omega));show AK _ _ _ _ _ ⟨((s.heap.push<|Ag "list" #[] 0).update s.heap.objs.size (Obj.mapSeq (·++vs.toArray))).push<|Ag "list" vs.toArray 0,s.gens,s.drawn,s.toks,s.os⟩;rw[hsz];refine AA (Ah (Al slot_list_sort ⟨_,hoL,rfl⟩ entry_list_sort (xK (κ:=κ) (rk:=rk) (s:=⟨_,s.gens,s.drawn,s.toks,s.os⟩) hoL nd hn (λh2 R q=>hkind ⟨nL (((s.heap.push<|Ag "list" #[] 0).update s.heap.objs.size (Obj.mapSeq (·++vs.toArray))).push<|Ag "list" vs.toArray 0) (s.heap.objs.size+1) vs,s.gens,s.drawn,s.toks,s.os⟩ k6 h2 _ R _ ?_ q) (λx hx y hy R E' q=>hask ⟨nL (((s.heap.push<|Ag "list" #[] 0).update s.heap.objs.size (Obj.mapSeq (·++vs.toArray))).push<|Ag "list" vs.toArray 0) (s.heap.objs.size+1) vs,s.gens,s.drawn,s.toks,s.os⟩ k6 x hx y hy _ R E' ?_ q) λout p1 p2=>⟨_,rfl,AB ⟨_,rfl,h out p1 p2⟩⟩)<|args_list_sort _))
 all_goals simp only[Around.in1];omega
theorem aIE{fin b:Bool}{Q:Bool->BF->Prop}{r:List (BE×BE)}(x:yX A s fin r b):∀ {i:Nat},Q b s->KatLex prog w A false fin Q r i s:=by
 induction x with
 |nil=>intro i q;exact kat_nil q
 |eq he _ ih=>intro i q;exact kat_cons<|SeqAt.EqAt.of_in1 he prog w _ _ (kat_yes<|ih q)
 |@lt x y r b he hl=>intro i q;refine kat_cons (SeqAt.EqAt.of_in1 he prog w _ _<|kat_no ?_);rw[pR];exact kat_one x y (wpAny_of_in1<|hl prog w _ _ q)
theorem vC{α β:Type}{G:α->β->Prop}:∀ {l:List α}{m:List β}{n:Nat}{a:α},Paired G l m->l[n]? =some a->∃b,m[n]? =some b/\G a b
 |_,_,_,_,.nil,h=>by simp at h
 |_,_,0,_,.cons r _,h=>by cases h;exact⟨_,rfl,r⟩
 |_,_,n+1,_,.cons _ t,h=>vC (n:=n) t (by simpa using h)
theorem qZ{α β:Type}{G:α->β->Prop}:∀ {l:List α}{m:List β} (n:Nat),Paired G l m->Paired G (l.eraseIdx n) (m.eraseIdx n)
 |_,_,_,.nil=>.nil
 |_,_,0,.cons _ t=>t
 |_,_,n+1,.cons r t=>.cons r<|qZ n t
def aOE(X:Cx):V->List V->Hp->VK->Prop:=λx vs H Q=>∃ (F:Hp) (l ad:BG) (k:List Key) (y:V) (n:Nat) (o:BJ) (kvs:List (List Key×V)),x=.ref l/\vs=[.ref ad]/\Same F H/\H l=some (exO l o)/\F ad=some (.tup<|k.map kV)/\X.A.units+1<AO/\
 TDo X.prog X.w F l o kvs/\kvs[n]? =some (k,y)/\(∀o',(∀v,o'.data≠ .cell v)->TDo X.prog X.w F l o' (kvs.eraseIdx n)->Q y (upd H l<|exO l o'))
theorem aMI:MtR X "dict.pop" (aOE X):=by
 intro pins s σ H x vs v us Q I rx rv h;obtain⟨F,l,ad,k,y,n,o,kvs,rfl,rfl,sF,hl,ha,hu,⟨z,hm,ts,kt,es,ep,t1,t2,t3,t4⟩,hn,q1⟩:=h;obtain rfl:v=Value.ref l:=rx;obtain⟨u,rfl,ru⟩:=Vals.one rv;obtain rfl:u=Value.ref ad:=ru;have ho:s.heap.get? l=some o:=(I.hok l _ hl).1;have ktH:KT H kvs ts:=kt.keeps λb ys e=>sF _ _ e
 have dd:s.heap.DictOfH (AQ<|dS X.prog X.w) l ts:=⟨o,es,ep,ho,t1,t2,t3,KT.all I.hok ktH,t4⟩;have hz:ts.length<=AL:=by rw[<-Paired.length kt];exact z
 obtain⟨⟨k',b,w'⟩,hj,e1,_,rw'⟩:=vC kt hn;have e1:k=k':=e1;subst e1;refine call_meetsIn aAz dd.typeIs PySem.F.entry_dict_pop (PySem.F.args_dict_pop_2 _ _) (aBP (AQ<|dS X.prog X.w) l ad) ⟨Am hu,k,ts,n,(b,w'),nH I.hok<|sF _ _ ha,dd,hz,hj,λh' dd' hsm=> ?_⟩;obtain⟨q,es',ep',hq,u2,u3,u4,_,u5⟩:=dd';have I4:=nJ (t':=s.toks+(AQ<|dS X.prog X.w).draws k) I (ob:=exO l q) (by rw[hl];exact True.intro) hsm ⟨q,hq⟩<|vK hq;exact⟨y,_,I4,rw',q1 q (λv z=>by rw[u3] at z;cases z) ⟨by have:=List.length_eraseIdx_le kvs n;omega,hm,_,qZ n kt,es',ep',u2,u3,u4,u5⟩⟩
variable {e:Expr}{l:BG}{ls:List BG}{ks:List (List Key)}{dss:List (List D)}
theorem aJW(i:Nat)(hg:Gl X "len")(hm:X.mg "len"=none)(hs:sd[i]? =some (odG X.prog X.w X.K l ks ls dss))(hx:PE X (.Name x p2) (jO i))(hst:AC [.Name x p2] X.env=(false,eval (.Name x p2) X.env)::AC [] X.env:=by rfl):PEd X sd (.Call (.Name "len" p) [.Name x p2] [] pos) (.val<|.int (ks.length:Nat)):=.mk λσ F H S=>
 (kC xV hg hm PySem.boot_len (dP hx pa_nil hst) (by decide) (by decide) hst rfl).to (by
  obtain⟨hv,hF,⟨o,g1,nc,hl,z,sm,xs,kt,es,ep,t1,t2,t3,t4⟩,hI,nd⟩:=hZ S hs;refine⟨.ref l,hv,l,o,es,ep,rfl,g1,t1,t2,sm, ?_,F,S,Same.refl _, ?_⟩
  ·have:=Av t3;have e2:=Paired.length kt;omega
  ·have:=Av t3;have e2:=Paired.length kt;have e3:(ks.zip<|ls.map V.ref).length=ks.length:=by rw[jH,aA,hl,oR]
   simp only[ResOk,Rep]
   rw[this,<-e2,e3])
theorem aCY{F:Hp}:∀ {kvs:List (List Key×V)}{xs:List (List Key×BG×BE)},KT F kvs xs->Vals (xs.map λq=>V.ref q.2.1) (xs.map λq=>Value.ref q.2.1)
 |_,_,.nil=>.nil
 |_,_,.cons _ t=>.cons rfl<|aCY t
theorem aHk{K:aB}{F:Hp}:∀ {kvs:List (List Key×V)}{xs:List (List Key×BG×BE)},KT F kvs xs->RepL K F ((kvs.map (·.1)).map nF) (xs.map λq=>V.ref q.2.1)
 |_,_,.nil=>.nil
 |_,_, @Paired.cons _ _ _ p q _ _ r t=>by refine .cons ?_ (aHk t);simp only[nF,Rep];refine⟨q.2.1,p.1.map kV,rfl,r.2.1, ?_⟩;exact rM _
theorem aGp(i:Nat)(hg:Gl X "list")(hm:X.mg "list"=none)(hs:sd[i]? =some (odG X.prog X.w X.K l ks ls dss))(hx:PE X (.Name x p2) (jO i))(hc:X.calm=true:=by rfl)(hst:AC [.Name x p2] X.env=(false,eval (.Name x p2) X.env)::AC [] X.env:=by rfl):PEd X sd (.Call (.Name "list" p) [.Name x p2] [] pos) (.own<|ks.map nF):=.mk λσ F H S pins s I=>by
 obtain⟨hv,hF,⟨o,g1,nc,hl,z,sm,xs,kt,es,ep,t1,t2,t3,t4⟩,hI,nd⟩:=hZ S hs;refine Ad<|oO I hg hm PyProof.Rows.boot_list ?_;refine PyProof.Rows.callWith_type1 (thn ((dP hx pa_nil hst) pos pins s σ H (λus H1=>us=[.ref l]/\H1=H) I ⟨.ref l,hv,rfl,rfl⟩) λus s1 hus=> ?_) hst rfl;obtain⟨ws,H1,I1,rv,rfl,rfl⟩:=hus;obtain⟨u,rfl,ru⟩:=oE rv;cases(show u=Value.ref l from ru);have ez:es.size=xs.length:=Av t3
 have e3:(ks.zip<|ls.map V.ref).map (·.1)=ks:=by rw[List.map_fst_zip];rw[aA];omega
 have e2:xs.length=ks.length:=by have:=Paired.length kt;rw[jH,aA] at this;omega
 have ho:s1.heap.get? l=some o:=(I1.hok l _ g1).1;refine PySem.W.kdl_call (srcD sm t1 t2) (I1.ok.hd hc) ho (by have:=Paired.length kt;omega) λh' tk acc c' kp gl it=> ?_
 have al:acc=(xs.map λq=>Value.ref q.2.1).toArray:=by
  apply tX.mp;apply tP;intro j
  by_cases hj:j<acc.toList.length
  ·have e4:acc.toList[j]? =some acc.toList[j]:=by simp[hj]
   obtain⟨u,q,ev⟩:=it.2 j acc.toList[j] (by rw[<-dG];exact e4);rw[e4,ev];rw[<-dG,t3,aS] at q;obtain⟨y,hy,ey⟩:=eE.mp q;rw[<-ey];simp[hy,entryOfKey]
  ·have a1:acc.toList.length=es.size:=by rw[bZ];exact it.1
   rw[iD<|by omega,iD<|by simp;omega]
 subst al;have le2:s1.heap.objs.size<=s1.heap.objs.size:=aP _;have hD:H1 s1.heap.objs.size=none:=I1.hok.fresh le2
 have I4:Inv X pins σ (upd H1 s1.heap.objs.size (.lst<|xs.map λq=>V.ref q.2.1)) {s1 with heap:=h',toks:=tk}:=
  I1.laid kp le2 ⟨by rw[aA];have:=Paired.length kt;omega,_,c',aCY kt,gl⟩
 obtain⟨S4,fp,no⟩:=S.layO (xs:=xs.map λq=>V.ref q.2.1) hD;refine⟨.ref s1.heap.objs.size,_,I4,rfl,F,S4,Same.refl _,_,_,rfl,fp,bV, ?_,no⟩;have:=aHk (K:=X.K) kt;rw[e3] at this;exact this
noncomputable def jS(ds:List D):Nat:=Ac (λi k=>dlt (ds.getD i .non)<|ds.getD k .non)<|ds.length-1
structure aIi(X:Cx)(ds:List D):Prop where
 ne:0<ds.length
 cmp:∀d∈ds,∀d2∈ds,rN d d2=true
 pl:∀d∈ds,pl d=true
 dep:∀d∈ds,X.A.units+1+dep d<AO
theorem aEl(hc:X.calm=true):kG X (.builtin "min") (λvs H Q=>∃ (a:BG) (xs:List V) (ds:List D),vs=[.ref a]/\SqL X.K H a xs/\RepL X.K H ds xs/\aIi X ds/\∀v,xs[jS ds]? =some v->Q v H):=by
 intro pins s σ H vs us Q I r h;obtain⟨a,xs,ds,rfl,ha,rl,M,q⟩:=h;obtain⟨u,rfl,rx⟩:=oE r;cases(show u=Value.ref a from rx);obtain⟨its,rv,p,hz⟩:=I.list ha;have hl:=rv.length;have hd:=rl.len;have isl:s.heap.IsList a its.toArray:=p.isList;have alt:a<s.heap.objs.size:=by obtain⟨o,ho,_⟩:=isl;exact aR ho
 refine aDW<|Ay isl ?_;refine⟨s.heap.objs.size,[s.heap.objs.size,a],[s.heap.objs.size],its.toArray.size,_,_,λh=>HOk X.prog X.w H h,λi k=>dlt (ds.getD i .non)<|ds.getD k .non,rfl,Walks.list (A:=X.A.in1) (I.ok.hd hc) _ a (bN alt) its.toArray,⟨⟨_,bK _ rfl,rfl,rfl⟩,isl.push _⟩,λb hb=> ?_,by simp;have:=M.ne;omega, ?_, ?_, ?_,λv h' tk pv k=> ?_⟩
 ·rw[yR];simp only[aU,fD,or_false] at hb
  rcases hb with rfl|rfl
  ·exact kO _
  ·exact mK alt
 ·intro i k x y t Q' E' hJ hx hy q';have hx:its[i]? =some x:=by simpa using hx
  have hy:its[k]? =some y:=by simpa using hy
  have li:i<ds.length:=by have:=(aD.mp hx).1;omega
  have lk:k<ds.length:=by have:=(aD.mp hy).1;omega
  have ei:ds[i]? =some (ds.getD i .non):=by simp[cB,li]
  have ek:ds[k]? =some (ds.getD k .non):=by simp[cB,lk]
  obtain⟨v1,g1,r1⟩:=rl.get ei;obtain⟨v2,g2,r2⟩:=rl.get ek;obtain⟨u1,w1,z1⟩:=rv.get g1;obtain⟨u2,w2,z2⟩:=rv.get g2;rw[hx] at w1;rw[hy] at w2;cases w1;cases w2;have mi:=aK ei;have mk:=aK ek;exact aHs hJ (ds.getD i .non) (M.cmp _ mi _ mk) (M.pl _ mi) (M.pl _ mk) r1 r2 z1 z2 (by have:=M.dep _ mi;simp only[Around.in1];omega) X.prog X.w _ _ q'
 ·exact aAm (cs:=[]) I.hok (λb u _ g=>aJ _ g) λb hb=>by cases hb
 ·intro h1 h2 j1 kp;refine aAm (cs:=[s.heap.objs.size+1,s.heap.objs.size]) j1 (λb u hb g=>kp b u (λz=>hb ?_) g) λb hb=> ?_
  ·rw[yR] at z;exact z
  ·simp only[aU,fD,or_false] at hb
   rcases hb with rfl|rfl
   ·exact I.hok.fresh<|iX _
   ·exact I.hok.fresh<|aP _
 ·have eb:Ac (λi k=>dlt (ds.getD i .non)<|ds.getD k .non) (its.toArray.size-1)=jS ds:=by unfold jS;rw[aY];congr 1;omega
  rw[eb] at pv;have pv:its[jS ds]? =some v:=by simpa using pv
  have lb:jS ds<xs.length:=by have:=(aD.mp pv).1;omega
  have ex:xs[jS ds]? =some xs[jS ds]:=by simp[lb]
  obtain⟨u,hu,ru⟩:=rv.get ex;rw[pv] at hu;cases hu;refine⟨xs[jS ds],H,I.kept (t':=tk) λb o g=>k b o (λz=> ?_)<|aJ _ g,ru,q _ ex⟩;have zb:b=s.heap.objs.size:=by simpa using z
  exact bN (aR g) zb
theorem aJu{d:D}(hg:Gl X "min")(hm:X.mg "min"=none)(ha:PEd X sd e (.bor ds))(M:aIi X ds)(hd:ds[jS ds]? =some d)(hc:X.calm=true:=by rfl)(hst:AC [e] X.env=(false,eval e X.env)::AC [] X.env:=by rfl):PEd X sd (.Call (.Name "min" p) [e] [] pos) (.val d):=
 mC (he:=hst) (aEl hc) hg hm boot_min (aC ha aO trivial hst) λσ F H vs Q S q k=>by
  cases q with
  |cons q1 q2=>cases q2;obtain⟨p,xs,rfl,hp,rl,_⟩:=q1;refine⟨p,xs,ds,rfl,.of hp,rl.mono S.sub,M,λv hv=>k v F H S (Same.refl _) ?_⟩;obtain⟨v',g,r'⟩:=rl.get hd;rw[hv] at g;cases g;exact r'
theorem yM{α β:Type}:∀ (a:List α) (b:List β) (n:Nat),a.length=b.length->(a.zip b).eraseIdx n=(a.eraseIdx n).zip (b.eraseIdx n)
 |[],[],_,_=>by simp
 |_::_,[],_,h=>by simp at h
 |[],_::_,_,h=>by simp at h
 |x::a,y::b,0,_=>rfl
 |x::a,y::b,n+1,h=>by show(x,y)::(a.zip b).eraseIdx n=(x,y)::(a.eraseIdx n).zip (b.eraseIdx n);rw[yM a b n<|by simpa using h]
theorem yD{α β:Type}(f:α->β):∀ (l:List α) (n:Nat),(l.eraseIdx n).map f=(l.map f).eraseIdx n
 |[],_=>by simp
 |_::_,0=>rfl
 |x::l,n+1=>by show f x::(l.eraseIdx n).map f=f x::(l.map f).eraseIdx n;rw[yD f l n]
theorem aDT{j:Nat}{z:Slot}{a:BG}(h:sd[j]? =some z)(ha:a∈gO z):a∈cA sd:=dI.mpr ⟨z,aK h,ha⟩
variable {H₀ F F' H':Hp}{i:Nat}{P:AF}
theorem StF.popG{o:BJ}(n:Nat)(S:StF K H₀ F H σ sd)(hs:sd[i]? =some (odG P w K l ks ls dss))(nc:∀v,o.data≠ .cell v)(td:TDo P w F l o ((ks.zip<|ls.map V.ref).eraseIdx n)):
  StF K H₀ F (upd H l<|exO l o) σ (sd.set i (odG P w K l (ks.eraseIdx n) (ls.eraseIdx n)<|dss.eraseIdx n)):=by
 obtain⟨g1,g2,⟨o',g3,nc',hl,_⟩,g4,g5⟩:=hZ S hs;obtain⟨n1,n2⟩:=bH.mp g5
 have sb:∀b,b∈l::ls.eraseIdx n->b∈l::ls:=λb hb=>by
  rcases aU.mp hb with h|h
  ·exact h▸aG
  ·exact aF _<|jE h
 refine S.reX (z':=odG P w K l (ks.eraseIdx n) (ls.eraseIdx n)<|dss.eraseIdx n) hs g1 (λb ob hb q=> ?_) (mG S.smp l) (vN (λb hb=>g2 b<|sb b hb) bV nc ?_ ?_ ?_) ?_ λb hb=>.inl<|sb b hb
 ·rw[bI (show b≠l from λz=>hb<|z▸aG)];exact q
 ·rw[kQ,kQ,hl]
 ·rw[yD,<-yM _ _ _ (by rw[aA];exact hl)];exact td
 ·refine InD.erase n<|g4.mono2 (Same.refl _) λb hb ob q=> ?_;rw[bI (show b≠l from λz=>n1<|z▸hb)];exact q
 ·show(l::ls.eraseIdx n).Nodup;exact bH.mpr ⟨λh=>n1<|jE h,n2.sublist<|eZ _ _⟩
open PySem.W (kat_lt kat_kind KatTups KatLex)
noncomputable abbrev Pr2:=List Int×List Int
noncomputable def p2D(x:Pr2):D:=.tup [bJ x.1,bJ x.2]
theorem aNI(x:Pr2):pl (p2D x)=true:=by show(pl (bJ x.1)&&(pl (bJ x.2)&&true))=true;rw[uJ,uJ];rfl
theorem xB:∀a b:List Int,xL (a.map D.int) (b.map D.int)=true
 |[],_=>rfl
 |_::_,[]=>rfl
 |x::a,y::b=>by show(true&&xL (a.map D.int) (b.map D.int))=true;rw[xB a b];rfl
theorem aMq(x y:Pr2):xL [bJ x.1,bJ x.2] [bJ y.1,bJ y.2]=true:=by show(xL (x.1.map D.int) (y.1.map D.int)&&(xL (x.2.map D.int) (y.2.map D.int)&&true))=true;rw[xB,xB];rfl
theorem aAM{x:List Int}{v:V}(h:Rep K F (bJ x) v):∃c,v=.ref c/\F c=some (.tup<|x.map V.int):=by simp only[bJ,Rep] at h;obtain⟨c,ys,rfl,e,r⟩:=h;have:=(show RepL K F (x.map D.int) ys from r).ints;subst this;exact⟨c,rfl,e⟩
theorem aAh:∀ {x y:List Int},x.map V.int=y.map V.int->x=y
 |[],[],_=>rfl
 |[],_::_,h=>by cases h
 |_::_,[],h=>by cases h
 |a::x,b::y,h=>by
  rw[bA,bA] at h;injection h with h1 h2
  injection h1 with h1
  rw[h1,aAh h2]
theorem aHv{x:Pr2}{v:V}(h:Rep K F (p2D x) v):∃a c d,v=.ref a/\F a=some (.tup [.ref c,.ref d])/\F c=some (.tup<|x.1.map V.int)/\F d=some (.tup<|x.2.map V.int):=by simp only[p2D,Rep] at h;obtain⟨a,ys,rfl,e,r⟩:=h;obtain⟨v1,ys1,rfl,r1,t1⟩:=r.uncons;obtain⟨v2,ys2,rfl,r2,t2⟩:=t1.uncons;simp only[RepL] at t2;subst t2;obtain⟨c,rfl,f1⟩:=aAM r1;obtain⟨d,rfl,f2⟩:=aAM r2;exact⟨a,c,d,rfl,e,f1,f2⟩
theorem aBV{x y:Pr2}{v:V}(h:Rep K F (p2D x) v)(g:Rep K F (p2D y) v):x=y:=by obtain⟨a,c,d,rfl,e,f1,f2⟩:=aHv h;obtain⟨a',c',d',ea,e',f1',f2'⟩:=aHv g;cases ea;rw[e] at e';cases e';rw[f1] at f1';rw[f2] at f2';have h1:=aAh (HO.tup.inj<|bS.inj f1');have h2:=aAh (HO.tup.inj<|bS.inj f2');exact Prod.ext h1 h2
structure SrtP(A:BH)(ps:List Pr2)(rk:Pr2->Nat):Prop where
 len:ps.length<=10000
 lt:∀x∈ps,∀y∈ps,dlt (p2D x) (p2D y)=decide (rk x<rk y)
 nd:(ps.map rk).Nodup
 un:A.units+8<AO
theorem aMG(x:Pr2):dep (p2D x)=2:=by show max (dep<|bJ x.1) (max (dep<|bJ x.2) 0)+1=2;rw[wL,wL];rfl
noncomputable def srE{α:Type}(hd:α->List D)(sn:α->D)(x:α):D:=.tup [.tup<|hd x,sn x]
structure aOP{α:Type}(A:BH)(K:aB)(hd:α->List D)(sn:α->D)(ps:List α)(rk:α->Nat):Prop where
 len:ps.length<=10000
 lt:∀x∈ps,∀y∈ps,pN [.tup<|hd x,sn x] [.tup<|hd y,sn y]=decide (rk x<rk y)
 nd:(ps.map rk).Nodup
 un:A.units+8<AO
 pl:∀x∈ps,plL [.tup<|hd x,sn x]=true
 cm:∀x∈ps,∀y∈ps,xL [.tup<|hd x,sn x] [.tup<|hd y,sn y]=true
 dp:∀x∈ps,iQ [.tup<|hd x,sn x]<=4
 inj:∀ (F:Hp) (x y:α) (v:V),Rep K F (srE hd sn x) v->Rep K F (srE hd sn y) v->x=y
theorem aDs{v:V}(h:Rep K F (.tup ds) v):∃a,v=.ref a:=by simp only[Rep] at h;obtain⟨a,_,rfl,_⟩:=h;exact⟨a,rfl⟩
variable {α:Type}{hd:α->List D}{sn:α->D}
theorem aBG:kG X (.builtin "sorted") (fun vs H Q=>∃ (a:BG) (xs:List V) (ps:List α) (rk:α→Nat),vs=[.ref a]∧H a=some (.lst xs)∧RepL X.K H (ps.map (srE hd sn)) xs∧aOP X.A X.K hd sn ps rk∧
  ∀ (D:BG) (ys:List V) (qs:List α),H D=none->qs.Perm ps->(qs.map rk).Pairwise (·<·)->(∀F,RepL X.K F (ps.map (srE hd sn)) xs->RepL X.K F (qs.map (srE hd sn)) ys)->Q (.ref D) (upd H D (.lst ys))):=by
 intro pins s σ H vs us Q I r h;obtain⟨a,xs,ps,rk,rfl,ha,rl,M,q⟩:=h;obtain⟨u,rfl,rx⟩:=oE r;cases(show u=Value.ref a from rx);obtain⟨z,its,n,rv,hl2,eo⟩:=I.lstM ha
 have tb:∀ {ps:List α}{xs:List V}{us:List BE},RepL X.K H (ps.map<|srE hd sn) xs->Vals xs us->∃T:List (α×BG),us=(T.map λr=>Value.ref r.2)/\xs=(T.map λr=>V.ref r.2)/\ps=(T.map λr=>r.1)/\∀r∈T,Rep X.K H ((srE hd sn) r.1) (.ref r.2):=by
  intro ps
  induction ps with
  |nil=>intro xs us r rv;rw[dL] at r;simp only[RepL] at r;subst r;cases rv;exact⟨[],rfl,rfl,rfl,λr h=>(fD h).elim⟩
  |cons x ps ih=>
   intro xs us r rv;rw[bA] at r;obtain⟨v,xs,rfl,a,rl⟩:=r.uncons;cases rv with
   |cons ru rv=>
    obtain⟨T,e1,e2,e3,t1⟩:=ih rl rv;obtain⟨b,rfl⟩:=aDs a;cases ru;refine⟨(x,b)::T,by rw[bA,<-e1],by rw[bA,<-e2],by rw[bA,<-e3],λr hr=> ?_⟩
    rcases aU.mp hr with rfl|hr
    ·exact a
    ·exact t1 r hr
 obtain⟨T,rfl,rfl,rfl,tr⟩:=tb rl rv
 obtain⟨rkW,hrk⟩:∃rkW:BE->Nat,∀r∈T,rkW (.ref r.2)=rk r.1:=by
  classical
  refine⟨λv=>if h:∃r∈T,v=Value.ref r.2 then rk h.choose.1 else 0,λr hr=> ?_⟩;have h:∃r'∈T,Value.ref r.2=Value.ref r'.2:=⟨r,hr,rfl⟩;show(if h:∃r'∈T,Value.ref r.2=Value.ref r'.2 then rk h.choose.1 else 0)=_;rw[dif_pos h]
  have e2:r.2=h.choose.2:=by have:=h.choose_spec.2;injection this
  have r2:=tr _ h.choose_spec.1;rw[<-e2] at r2;rw[M.inj _ _ _ _ r2<|tr r hr]
 have mT:∀ {r:α×BG},r∈T->r.1∈T.map λr=>r.1:=λh=>List.mem_map_of_mem (f:=λr:α×BG=>r.1) h
 have lT:T.length<=10000:=by simpa using M.len
 have mv:∀x∈(T.map λr=>Value.ref r.2),∃r∈T,x=Value.ref r.2:=λx hx=>by obtain⟨r,hr,e⟩:=aQ.mp hx;exact⟨r,hr,e.symm⟩
 have ew:∀T':List (α×BG),(∀r∈T',r∈T)->(T'.map λr=>Value.ref r.2).map rkW=(T'.map λr=>r.1).map rk:=λT' h=>by rw[bB,bB];exact bW λr hr=>hrk r<|h r hr
 have hok':∀t:BF,(∀b o,s.heap.get? b=some o->t.heap.get? b=some o)->HOk X.prog X.w H t.heap:=λt k=>aAm (cs:=[]) I.hok (λb u _ g=>k b u g) λb hb=>(fD hb).elim
 refine aBF (l:=a) (vs:=T.map λr=>Value.ref r.2) (κ:=tuples' false) (rk:=rkW) ⟨_,eo,rfl,n,rfl⟩ (by rw[ew T λ_ h=>h];exact M.nd) (by rw[aA];exact lT) (λt kp h2 A' R E' _ hR=> ?_) (λt kp x hx y hy A' R E' hA hR=> ?_) λout p1 p2=> ?_
 ·have ok:=hok' t kp
  have kt:∀T':List (α×BG),(∀r∈T',r∈T)->∃fs:List BE,KatTups t.heap (T'.map λr=>Value.ref r.2) fs/\fs.length=T'.length/\∀v∈fs,∃c o,v=.ref c/\t.heap.get? c=some o/\o.cls=.type "tuple":=λT'=>by
   induction T' with
   |nil=>exact λ_=>⟨[],.nil,rfl,λv hv=>(fD hv).elim⟩
   |cons r T' ih=>
    intro h;obtain⟨fs,k,l,i⟩:=ih λr hr=>h r<|aF _ hr
    have rr:=tr r<|h r aG;obtain⟨b,ys,its,e1,e2,r2,v2,o,g,c,n',hd1⟩:=iL ok rr (show RelV (.ref r.2) (.ref r.2) from rfl);cases e1;cases e2;have r2:RepL X.K H [.tup<|hd r.1,sn r.1] ys:=r2;obtain⟨w1,ys1,rfl,q1,t1⟩:=r2.uncons;obtain⟨w2,ys2,rfl,q2,t2⟩:=t1.uncons;simp only[RepL] at t2;subst t2;obtain⟨c1,rfl⟩:=aDs q1;cases v2 with
    |cons ru1 v2=>
     cases ru1;obtain⟨b1,ys1,its1,e3,e4,_,_,o1,g1,cc1,_⟩:=iL ok q1 (show RelV (.ref c1) (.ref c1) from rfl);cases e3;refine⟨.ref c1::fs,KatTups.cons g c hd1 (by simp) k,by rw[bU,bU,l],λv hv=> ?_⟩
     rcases aU.mp hv with rfl|hv
     ·cases e4;exact⟨_,o1,rfl,g1,cc1⟩
     ·exact i v hv
  obtain⟨fs,k,l,i⟩:=kt T λ_ h=>h
  rw[aA] at h2;refine kat_kind (T:=.type "tuple") k (by omega) (λv hv=> ?_) rfl hR;obtain⟨c,o,rfl,g,e⟩:=i v hv;have:PySem.W.Looks (AH X.prog X.w) t.heap (typeOf<|.ref c) o.cls:=(PySem.W.Looks.ld g).andThen .now;rw[e] at this;exact this
 ·have ok:=hok' t kp;obtain⟨rx,hrx,rfl⟩:=mv x hx;obtain⟨ry,hry,rfl⟩:=mv y hy;obtain⟨b,ys,its,e1,e2,r2,v2,o,g,c,n',hd1⟩:=iL ok (tr rx hrx) (show RelV (.ref rx.2) (.ref rx.2) from rfl);cases e1;cases e2;obtain⟨b',ys',its',e1,e2,r2',v2',o',g',c',n'',hd'⟩:=iL ok (tr ry hry) (show RelV (.ref ry.2) (.ref ry.2) from rfl);cases e1;cases e2;have r2:RepL X.K H [.tup<|hd rx.1,sn rx.1] ys:=r2;have r2':RepL X.K H [.tup<|hd ry.1,sn ry.1] ys':=r2';have l1:its.length=2:=by rw[<-v2.length,r2.len];rfl
  have l2:its'.length=2:=by rw[<-v2'.length,r2'.len];rfl
  refine kat_lt g hd1 g' hd'<|aIE (A:=A') (b:=pN [.tup<|hd rx.1,sn rx.1] [.tup<|hd ry.1,sn ry.1]) ?_ ?_
  ·refine aCJ ok [.tup<|hd rx.1,sn rx.1] (es:=[.tup<|hd ry.1,sn ry.1]) ?_ ?_ ?_ r2 r2' v2 v2' ?_ (by simp[l1,l2])
   ·exact M.cm _ (mT hrx) _<|mT hry
   ·exact M.pl _<|mT hrx
   ·exact M.pl _<|mT hry
   ·have:=M.un;have:=M.dp _<|mT hrx;omega
  ·have e:pN [.tup<|hd rx.1,sn rx.1] [.tup<|hd ry.1,sn ry.1]=decide (rkW (.ref rx.2)<rkW (.ref ry.2)):=by rw[hrk rx hrx,hrk ry hry];exact M.lt _ (mT hrx) _ (mT hry)
   rw[e];exact hR
 ·obtain⟨T',q1,q2⟩:=zV (f:=λr:α×BG=>Value.ref r.2) (l:=T) (l':=out.toList) p1
  have eo2:out=(T'.map λr=>Value.ref r.2).toArray:=by apply tX.mp;rw[q2]
  rw[q2,ew T' λr hr=>q1.mem_iff.mp hr] at p2;subst eo2;obtain⟨kp,n2,g2⟩:=aFG s.heap (T.map λr=>Value.ref r.2) (T'.map λr=>Value.ref r.2).toArray;have hD:H (s.heap.objs.size+1)=none:=I.hok.fresh<|iX _;have lT':T'.length=T.length:=q1.length_eq
  have vv:Vals (T'.map λr=>V.ref r.2) (T'.map λr=>Value.ref r.2):=by
   generalize T'=U
   induction U with
   |nil=>exact .nil
   |cons r U ih=>exact .cons rfl ih
  have I3:Inv X pins σ (upd H (s.heap.objs.size+1) (.lst<|T'.map λr=>V.ref r.2)) {s with heap:=sortedAll s.heap (T.map λr=>Value.ref r.2) (T'.map λr=>Value.ref r.2).toArray}:=
   I.laid (t':=s.toks) kp (iX _) ⟨by rw[Ap,aA];omega,_,n2,vv,by simpa[Ag] using g2⟩
  refine⟨.ref<|s.heap.objs.size+1,_,I3,rfl,q _ (T'.map λr=>V.ref r.2) (T'.map λr=>r.1) hD (q1.map _) p2 λF rF=> ?_⟩
  have all:∀ {U:List (α×BG)},RepL X.K F ((U.map λr=>r.1).map<|srE hd sn) (U.map λr=>V.ref r.2)->∀r∈U,Rep X.K F ((srE hd sn) r.1) (.ref r.2):=λ{U}=>by
   induction U with
   |nil=>exact λ_ r hr=>(fD hr).elim
   |cons y U ih=>
    intro h r hr;rw[bA,bA,bA] at h;obtain⟨v,vs,e,a1,a2⟩:=h.uncons;cases e
    rcases aU.mp hr with rfl|hr
    ·exact a1
    ·exact ih a2 r hr
  have aT:=all rF;have rT:∀r∈T',Rep X.K F ((srE hd sn) r.1) (.ref r.2):=λr hr=>aT r<|q1.mem_iff.mp hr
  clear vv I3 g2 p2 q1 q2 p1 lT' kp
  induction T' with
  |nil=>exact .nil
  |cons r U ih=>exact .cons (rT r aG) (ih λq hq=>rT q<|aF _ hq)
theorem SrtP.gen{ps:List Pr2}{rk:Pr2→Nat}(M:SrtP A ps rk):aOP A K (fun x:Pr2=>x.1.map D.int) (fun x=>bJ x.2) ps rk:=⟨M.len,M.lt,M.nd,M.un,fun x _=>aNI x,fun x _ y _=>aMq x y,fun x _=>by
 have:=aMG x;have:iQ [bJ x.1,bJ x.2]+1=2:=this;show iQ [bJ x.1,bJ x.2]<=4
 omega,λF x y v h1 h2=>aBV h1 h2⟩
theorem aBw:kG X (.builtin "sorted") (fun vs H Q=>∃ (a:BG) (xs:List V) (ps:List Pr2) (rk:Pr2→Nat),vs=[.ref a]∧H a=some (.lst xs)∧RepL X.K H (ps.map p2D) xs∧SrtP X.A ps rk∧
  ∀ (D:BG) (ys:List V) (qs:List Pr2),H D=none->qs.Perm ps->(qs.map rk).Pairwise (·<·)->(∀F,RepL X.K F (ps.map p2D) xs->RepL X.K F (qs.map p2D) ys)->Q (.ref D) (upd H D (.lst ys))):=by
 intro pins s σ H vs us Q I r h;obtain⟨a,xs,ps,rk,h1,h2,h3,M,q⟩:=h;exact aBG pins s σ H vs us Q I r ⟨a,xs,ps,rk,h1,h2,h3,M.gen,q⟩
variable {k:List Key}{E:iJ}{ps:List Pr2}{rk:Pr2->Nat}
theorem aFv(i j n:Nat){y:Str}{px py ap:Pos}(hu:X.A.units+1<AO)(hg:Gl X "sorted")(hm:X.mg "sorted"=none)(hs:sd[i]? =some (odG X.prog X.w X.K l ks ls dss))(hx:PE X (.Name x px) (jO i))(hb:PEd X sd b (.val (.tup<|k.map kD)))(hk:ks[n]? =some k)(hd:dss[n]? =some (ps.map p2D))(M:SrtP X.A ps rk)
  (hN:X.N.Nodup) (hj:X.N[j]? =some y) (hy:Loc X.env.scope y)
  (hE:∀ (l':BG) (qs:List Pr2),qs.Perm ps->(qs.map rk).Pairwise (·<·)->E.nx ((sd.set i (odG X.prog X.w X.K l (ks.eraseIdx n) (ls.eraseIdx n)<|dss.eraseIdx n)).set j (.own l'<|qs.map p2D)))
  (hpop:PE X (.Call (.Attribute (.Name x px) "pop" ap) [b] [] cp) (λσ H Q=>jO i σ H λv H1=>(∃l ob,v=.ref l/\H1 l=some (exO l ob)/\ob.ExactDict)/\(lO (wE X b) vJ) σ H1 λxs H2=>aOE X v xs H2 Q):=by exact aKI jF aAz PySem.F.type_dict_pop aMI (pv _) (dP eY pa_nil))
  (hst:AC [.Call (.Attribute (.Name x px) "pop" ap) [b] [] cp] X.env=(false,eval (.Call (.Attribute (.Name x px) "pop" ap) [b] [] cp) X.env)::AC [] X.env:=by rfl)
  (hsw:AX (.Call (.Name "sorted" p) [.Call (.Attribute (.Name x px) "pop" ap) [b] [] cp] [] p2) (some<|.Name y py) pos.line X.env=pure false:=by rfl)
  (hf:X.fn y=true\/X.env.scope.names.lookup y=some .local:=by first|exact .inl rfl|exact .inr rfl|assumption):
  PSd1 X sd (.Assign [.Name y py] (.Call (.Name "sorted" p) [.Call (.Attribute (.Name x px) "pop" ap) [b] [] cp] [] p2) pos) E:=.mk λσ F H S=>
 (nY hN hj hy (kC aBw hg hm boot_sorted (dP hpop pa_nil hst) (by decide) (by decide) hst rfl) hsw hf).to (by
  obtain⟨h1,h2,⟨o,h3,nc,hk2,td⟩,h4,h5⟩:=hZ S hs;refine⟨.ref l,h1,⟨l,o,rfl,h3,td.2.2.choose_spec.2.choose_spec.choose_spec.1⟩,(hb σ F H S).imp λv1 H1 ⟨F1,S1,s1,q1⟩=> ?_⟩;obtain⟨g1,g2,⟨o2,g3,nc2,hk3,td2⟩,g4,g5⟩:=hZ S1 hs;obtain⟨n1,n2⟩:=bH.mp g5;simp only[ResOk,Rep] at q1;obtain⟨ad,ys,rfl,ha,rl⟩:=q1;rw[oK rl] at ha;have nl:n<ls.length:=by have:=(aD.mp hk).1;omega
  have e3:ls[n]? =some ls[n]:=by simp[nl]
  generalize ls[n]=an at e3;obtain⟨ds,xs,d1,d2,d3⟩:=g4.get e3;rw[hd] at d1;cases d1;have anl:an≠l:=λz=>n1<|z▸aK e3
  have zg:(ks.zip<|ls.map V.ref)[n]? =some (k,V.ref an):=by rw[lX];exact⟨hk,by rw[aS,e3];rfl⟩
  refine⟨F1,l,ad,k,.ref an,n,o2,ks.zip<|ls.map V.ref,rfl,rfl,S1.sub,g3,ha,hu,td2,zg,λo' nc' td'=> ?_⟩;have S2:=S1.popG n hs nc' td';refine⟨an,xs,ps,rk,rfl,by rw[bI anl];exact d2,d3.mono S2.sub,M,λD ys qs hD pm pw hr=> ?_⟩;obtain⟨S3,fp,no⟩:=S2.layO (xs:=ys) hD
  exact⟨_,F1,S3.setO j fp bV (hr F1 d3) no,s1,hE D qs pm pw⟩)
theorem InD.snocL{K:aB}{F H:Hp}{a:BG}{ds:List D}{xs:List V}:∀ {as:List BG}{dss:List (List D)},InD K F H as dss->H a=some (.lst xs)->RepL K F ds xs->InD K F H (as++[a]) (dss++[ds])
 |[],[],_,e,r=>⟨⟨xs,e,r⟩,trivial⟩
 |[],_::_,h,_,_=>h.elim
 |_::_,[],h,_,_=>h.elim
 |_::_,_::_,h,e,r=>⟨h.1,InD.snocL h.2 e r⟩
theorem StF.newW{a:BG}{o:BJ}{xs:List V}(S:StF K H₀ F H σ sd)(hs:sd[i]? =some (odG P w K l ks ls dss))(fa:F a=none)(ha:H a=some (.lst xs))(rl:RepL K F ds xs)(na:a∉cA sd)(nc:∀v,o.data≠ .cell v)(td:TDo P w F l o (ks.zip (ls.map V.ref)++[(k,.ref a)])):
  StF K H₀ F (upd H l<|exO l o) σ (sd.set i (odG P w K l (ks++[k]) (ls++[a])<|dss++[ds])):=by
 obtain⟨g1,g2,⟨o',g3,nc',hl,_⟩,g4,g5⟩:=hZ S hs;obtain⟨n1,n2⟩:=bH.mp g5;have ml:∀b∈l::ls,b∈cA sd:=λb hb=>aDT hs hb
 have al:a≠l:=λz=>na<|z▸ml l aG
 have als:a∉ls:=λz=>na (ml a<|aF _ z)
 have sp:∀b,b∈l::(ls++[a])->b∈l::ls\/b=a:=λb hb=>by
  rcases aU.mp hb with h|h
  ·exact .inl<|h▸aG
  ·rcases aM.mp h with h|h
   ·exact .inl<|aF _ h
   ·exact .inr<|aE.mp h
 refine S.reX (z':=odG P w K l (ks++[k]) (ls++[a])<|dss++[ds]) hs g1 (λb ob hb q=> ?_) (mG S.smp l) (vN (λb hb=> ?_) bV nc (by rw[aN,aN,hl];rfl) ?_ ?_) ?_ λb hb=> ?_
 ·rw[bI (show b≠l from λz=>hb<|z▸aG)];exact q
 ·rcases sp b hb with h|rfl
  ·exact g2 b h
  ·exact fa
 ·rw[aW,bA,dL,sW<|by rw[aA];exact hl];exact td
 ·refine InD.snocL (g4.mono2 (Same.refl _) λb hb ob q=> ?_) ?_ rl
  ·rw[bI (show b≠l from λz=>n1<|z▸hb)];exact q
  ·rw[bI al];exact ha
 ·show(l::(ls++[a])).Nodup;refine bH.mpr ⟨λh=> ?_,bE.mpr ⟨n2,by simp,λb hb c hc e=>als<|aE.mp hc▸e▸hb⟩⟩
  rcases aM.mp h with h|h
  ·exact n1 h
  ·exact al (aE.mp h).symm
 ·rcases sp b hb with h|rfl
  ·exact .inl h
  ·exact .inr na
theorem aFL(i:Nat){q1 q2 tp:Pos}{c c':Int}{j1 j2 x1:Nat}(hu:X.A.units+1<AO)(hs:sd[i]? =some (odG X.prog X.w X.K l ks ls dss))(hx:PE X (.Name x p) (jO i))(h:PEd X sd e (.own ds))(hk:([Sum.inl c,Sum.inl c']:List Key)∉ks)(hl:dss.length<=10000)
  (hE:∀a,E.nx<|sd.set i (odG X.prog X.w X.K l (ks++[[Sum.inl c,Sum.inl c']]) (ls++[a])<|dss++[ds]))
  (hb:PE X (.Tuple [.Constant (.int c) j1 q1, .Constant (.int c') j2 q2] x1 tp) (aOx (lO (tC<|.int c)<|lO (tC<|.int c') vJ)):=by exact aCO (dP pe_int<|dP pe_int pa_nil))
  (hsw:AX e (some<|.Subscript (.Name x p) (.Tuple [.Constant (.int c) j1 q1, .Constant (.int c') j2 q2] x1 tp) p2) pos.line X.env=pure false:=by rfl):PSd1 X sd (.Assign [.Subscript (.Name x p) (.Tuple [.Constant (.int c) j1 q1, .Constant (.int c') j2 q2] x1 tp) p2] e pos) E:=.mk λσ F H S pins s I=>by
 refine wpAny_Assign_Subscript (thn (h σ F H S pins s I) λr s1 ⟨v,H1,I1,rv,F1,S1,sF1,q1⟩=> ?_) hsw;obtain⟨a,xs,rfl,fa,ha,rl,na⟩:=q1;obtain rfl:r=Value.ref a:=rv;obtain⟨h1,_⟩:=hZ S1 hs;refine thn (hx pins s1 σ H1 (λv H2=>v=.ref l/\H2=H1) I1 ⟨.ref l,h1,rfl,rfl⟩) λu s2 ⟨y,H2,I2,ry,e1,e2⟩=> ?_
 subst e1 e2;obtain rfl:u=Value.ref l:=ry;refine thn (hb pins s2 σ H2 (λv H3=>∃ad,v=.ref ad/\H2 ad=none/\H3=upd H2 ad (.tup [.int c,.int c'])) I2 ⟨by show 2<=AL;decide,λad had=>⟨ad,rfl,had,rfl⟩⟩) λiv s3 ⟨y,H3,I3,ry,ad,e1,fad,e3⟩=> ?_
 subst e1 e3;obtain rfl:iv=Value.ref ad:=ry;obtain⟨S3,sF3⟩:=S1.lay (o:=.tup [.int c,.int c']) fad trivial;have ada:a≠ad:=λz=>by rw[z,fad] at ha;cases ha
 have fa3:upd F1 ad (.tup [.int c,.int c']) a=none:=by rw[bI ada];exact fa
 have ha3:upd H2 ad (.tup [.int c,.int c']) a=some (.lst xs):=by rw[bI ada];exact ha
 obtain⟨g1,g2,⟨o,g3,nc,hkl,z,hm,ts,kt,es,ep,t1,t2,t3,t4⟩,g4,g5⟩:=hZ S3 hs;have had:upd F1 ad (.tup [.int c,.int c']) ad=some (.tup<|([Sum.inl c,Sum.inl c']:List Key).map kV):=bV;have ho:s3.heap.get? l=some o:=(I3.hok l _ g3).1;have ktH:=kt.keeps λb ys e=>S3.sub _ _ e
 have dd:s3.heap.DictOfH (AQ<|dS X.prog X.w) l ts:=⟨o,es,ep,ho,t1,t2,t3,KT.all I3.hok ktH,t4⟩;have hz:ts.length<=AL:=by rw[<-Paired.length kt];exact z
 have zl:(ks.zip<|ls.map V.ref).length=dss.length:=by rw[jH,aA,<-hkl,oR,hkl,g4.len]
 have vn:fE (ks.zip<|ls.map V.ref) [Sum.inl c,Sum.inl c']=none:=xR hk λ_ z=>z
 have hl2:(qU (ks.zip<|ls.map V.ref) [Sum.inl c,Sum.inl c']<|.ref a).length<=AL:=by rw[oF _ vn,aN,zl];have:=fI hl;show dss.length+1<=AL;omega
 refine wpAny_setItem_heap (hsz:=hz) (Am hu) (nH I3.hok<|S3.sub _ _ had) dd λh' dd' hsm=> ?_
 obtain⟨q,es',ep',hq,u2,u3,u4,_,u5⟩:=dd';have I4:=nJ (t':=s3.toks+(AQ<|dS X.prog X.w).draws [Sum.inl c,Sum.inl c']) I3 (ob:=exO l q) (by rw[g3];exact True.intro) hsm ⟨q,hq⟩<|vK hq;have kt':=kt.put [Sum.inl c,Sum.inl c'] had (show RelV (.ref a) (.ref a) from rfl);rw[oF _ vn] at kt' hl2;exact⟨σ,_,I4,_,_,S3.newW (o:=q) (k:=[Sum.inl c,Sum.inl c']) hs fa3 ha3 (rl.mono sF3) na (λv z=>by rw[u3] at z;cases z) ⟨hl2,hm,_,kt',es',ep',u2,u3,u4,u5⟩,sF1.trans sF3,hE a⟩
noncomputable def rkK(r:Int×Int):List Key:=[Sum.inl r.1,Sum.inl r.2]
theorem aKa{a b:Int×Int}(h:rkK a=rkK b):a=b:=by
 unfold rkK at h;injection h with h1 h2
 injection h2 with h2 _
 injection h1 with h1
 injection h2 with h2
 exact Prod.ext h1 h2
noncomputable abbrev WtT:=List<|(Int×Int)×List Pr2
structure Wt where
 l:BG
 ls:List BG
 T:WtT
noncomputable def wtK(T:WtT):List (List Key):=T.map λt=>rkK t.1
noncomputable def wtD(T:WtT):List (List D):=T.map λt=>t.2.map p2D
noncomputable def wtS(P:AF)(w:AM)(K:aB)(a:Wt):Slot:=odG P w K a.l (wtK a.T) a.ls<|wtD a.T
noncomputable def wtL(P:AF)(w:AM)(K:aB):Lent K:=⟨Wt,Wt.l,λa=>a.l::a.ls,λa=>Gg P w K a.l (wtK a.T) a.ls<|wtD a.T,λh=>h.1⟩
theorem aFE(P:AF)(w:AM)(K:aB)(a:Wt)(v:V)(F H:Hp)(b:BG)(o:HO)(h:(wtL P w K).G a v F H)(hb:b∈(wtL P w K).own a)(e:H b=some o):¬ zX o:=by
 obtain⟨_,⟨ob,g,_⟩,hI⟩:=h
 rcases aU.mp (show b∈a.l::a.ls from hb) with rfl|hb
 ·rw[g] at e;cases e;exact λz=>z
 ·obtain⟨xs,g2⟩:=InD.of hI b hb;rw[g2] at e;cases e;exact λz=>z
noncomputable def jQ:WtT->Int×Int->Pr2->WtT
 |[],r,x=>[(r,[x])]
 |t::T,r,x=>if t.1=r then(t.1,t.2++[x])::T else t::jQ T r x
theorem uU{r:Int×Int}(x:Pr2):∀ {T:WtT},rkK r∉wtK T->jQ T r x=T++[(r,[x])]
 |[],_=>rfl
 |t::T,h=>by
  have h1:t.1≠r:=λe=>h (by unfold wtK;rw[bA,e];exact aG)
  show(if t.1=r then _ else t::jQ T r x)=_;rw[if_neg h1,uU x (T:=T) λz=>h<|aF _ z];rfl
theorem uY{r:Int×Int}(x:Pr2):∀ {T:WtT}{n:Nat}{ds:List D},(wtK T).Nodup->(wtK T)[n]? =some (rkK r)->(wtD T)[n]? =some ds->wtK (jQ T r x)=wtK T/\wtD (jQ T r x)=(wtD T).set n (ds++[p2D x])
 |[],n,ds,_,h,_=>by simp[wtK] at h
 |t::T,0,ds,nd,h,hd=>by
  have e:t.1=r:=aKa (by simpa[wtK] using h);have e2:t.2.map p2D=ds:=by simpa[wtD] using hd
  have ea:jQ (t::T) r x=(t.1,t.2++[x])::T:=if_pos e;rw[ea];refine⟨rfl, ?_⟩;show((t.2++[x]).map p2D)::wtD T=((t.2.map p2D)::wtD T).set 0 _;rw[aW,e2];rfl
 |t::T,n+1,ds,nd,h,hd=>by
  have nd':=bH.mp (show(rkK t.1::wtK T).Nodup from nd);have h':(wtK T)[n]? =some (rkK r):=by simpa[wtK] using h
  have hd':(wtD T)[n]? =some ds:=by simpa[wtD] using hd
  have ne:t.1≠r:=λe=>nd'.1<|e▸aK h'
  have ea:jQ (t::T) r x=t::jQ T r x:=if_neg ne;obtain⟨k1,k2⟩:=uY x nd'.2 h' hd';rw[ea];refine⟨by show rkK t.1::wtK (jQ T r x)=rkK t.1::wtK T;rw[k1], ?_⟩;show t.2.map p2D::wtD (jQ T r x)=(t.2.map p2D::wtD T).set (n+1) _;rw[k2];rfl
theorem aJm{r:Int×Int}(x:Pr2){T:WtT}(nd:(wtK T).Nodup):(wtK<|jQ T r x).Nodup:=by
 by_cases h:rkK r∈wtK T
 ·obtain⟨n,hn⟩:=cX h
  have ln:n<T.length:=by have:=(aD.mp hn).1;simpa[wtK] using this
  obtain⟨ds,hd⟩:∃ds,(wtD T)[n]? =some ds:=⟨_,by unfold wtD;rw[aS,eV ln];rfl⟩;rw[(uY x nd hn hd).1];exact nd
 ·rw[uU x h];unfold wtK;rw[aW];refine bE.mpr ⟨nd,by simp,λa ha b hb e=>h ?_⟩;have q:b=rkK r:=by simpa using hb
  rw[<-q,<-e];exact ha
noncomputable def tot(T:WtT):Nat:=(T.map λt=>t.2.length+1).sum
theorem aDy(r:Int×Int)(x:Pr2):∀T:WtT,tot (jQ T r x)<=tot T+2
 |[]=>by simp[tot,jQ]
 |t::T=>by
  have ih:=aDy r x T;show tot (if t.1=r then(t.1,t.2++[x])::T else t::jQ T r x)<=_
  split
  ·simp[tot];omega
  ·simp[tot] at ih ⊢;omega
theorem aIp(T:WtT):T.length<=tot T:=by
 induction T with
 |nil=>exact aP _
 |cons t T ih=>simp[tot] at ih ⊢;omega
theorem aJZ{T:WtT}:∀ds∈wtD T,ds.length<=tot T:=by
 induction T with
 |nil=>exact λds h=>(fD h).elim
 |cons t T ih=>
  intro ds h
  rcases aU.mp (show ds∈t.2.map p2D::wtD T from h) with rfl|h
  ·rw[aA];simp[tot];omega
  ·have:=ih ds h;simp[tot] at this ⊢;omega
noncomputable def nP(x:List Nat×List Nat):Pr2:=(x.1.map λ(i:Nat)=>(i:Int),x.2.map λ(i:Nat)=>(i:Int))
theorem aNA(x:List Nat×List Nat):p2D (nP x)=.tup [.tup<|cD x.1,.tup<|cD x.2]:=by unfold p2D nP bJ cD;rw[bB,bB];rfl
noncomputable def lgQ(p:Int×Int)(L:List SK)(b:Int)(r:Int×Int)(row nb:List Nat):Nat->WtT->WtT
 |0,T=>T
 |t+1,T=>if r.1+(L.getD t AN).2<=b then jQ (lgQ p L b r row nb t T) (r.1+(L.getD t AN).2,r.2+1) (nP (row++[t],fH (fS p (L.getD t AN).1) nb)) else lgQ p L b r row nb t T
theorem aFo{p:Int×Int}{L:List SK}{b:Int}{r:Int×Int}{row nb:List Nat}{T:WtT}(nd:(wtK T).Nodup):∀t,(wtK<|lgQ p L b r row nb t T).Nodup
 |0=>nd
 |t+1=>by
  unfold lgQ
  split
  ·exact aJm _<|aFo nd t
  ·exact aFo nd t
theorem aHz{p:Int×Int}{L:List SK}{b:Int}{r:Int×Int}{row nb:List Nat}{T:WtT}:∀t,tot (lgQ p L b r row nb t T)<=tot T+2*t
 |0=>aP _
 |t+1=>by
  have ih:=aHz (p:=p) (L:=L) (b:=b) (r:=r) (row:=row) (nb:=nb) (T:=T) t;unfold lgQ
  split
  ·have:=aDy (r.1+(L.getD t AN).2,r.2+1) (nP (row++[t],fH (fS p (L.getD t AN).1) nb))<|lgQ p L b r row nb t T;omega
  ·omega
def aNo(a:Wt)(ds:List D)(post:Wt->Prop):Prop:=∃p L b r row nb,p∈bO/\L.length<=100/\NOk p nb/\row.length<=400/\(wtK a.T).Nodup/\tot a.T+2*L.length<=9000/\ds=[.lst (L.map<|mvD p),.int b,.tup [.int r.1,.int r.2],.tup<|cD row,.tup<|cD nb]/\post=λa'=>a'.l=a.l/\a'.T=lgQ p L b r row nb L.length a.T
noncomputable def unP(y:Pr2):List Nat×List Nat:=(y.1.map qF,y.2.map qF)
theorem aCn(x:List Nat×List Nat):unP (nP x)=x:=by
 have g:∀l:List Nat,(l.map λ(i:Nat)=>(i:Int)).map qF=l:=λl=>by rw[bB];exact(bW λi _=>dX i).trans<|kR l
 unfold unP nP;exact Prod.ext (g x.1)<|g x.2
structure FdS where
 T:WtT
 kn:List (List Nat)
 fd:List (Int×List Nat×List Nat)
noncomputable def fdI(p:Int×Int)(L:List SK)(b:Int)(r:Int×Int)(S:FdS)(x:List Nat×List Nat):FdS:=if x.2∈S.kn then S else⟨lgQ p L b r x.1 x.2 L.length S.T,S.kn++[x.2],S.fd++[(r.1,x.1,x.2)]⟩
noncomputable def fdP(p:Int×Int)(L:List SK)(b:Int)(r:Int×Int)(S:FdS)(xs:List Pr2):FdS:=xs.foldl (λS y=>fdI p L b r S<|unP y) S
theorem vB(p:Int×Int)(L:List SK)(b:Int)(r:Int×Int)(S:FdS)(xs:List Pr2)(y:Pr2):fdP p L b r S (xs++[y])=fdI p L b r (fdP p L b r S xs) (unP y):=by unfold fdP;rw[iM];rfl
structure aNu(S:FdS):Prop where
 nk:(wtK S.T).Nodup
 kn:S.kn=S.fd.map λe=>e.2.2
 nd:S.kn.Nodup
theorem aMs{p:Int×Int}{b:Int}{r:Int×Int}{S:FdS}(h:aNu S)(x:List Nat×List Nat):aNu (fdI p L b r S x):=by
 unfold fdI
 split
 ·exact h
 ·rename_i q;refine⟨aFo h.nk _, ?_,bE.mpr ⟨h.nd,by simp,λa ha c hc e=>q ?_⟩⟩
  ·show S.kn++[x.2]=(S.fd++[(r.1,x.1,x.2)]).map _;rw[aW,<-h.kn];rfl
  ·have hc:c=x.2:=by simpa using hc
   rw[<-hc,<-e];exact ha
def rlt(r s:Int×Int):Prop:=r.1<s.1\/(r.1=s.1/\r.2<s.2)
instance (r s:Int×Int):Decidable (rlt r s):=inferInstanceAs (Decidable<|_\/_)
noncomputable def rkD(r:Int×Int):D:=.tup [.int r.1,.int r.2]
theorem aGV(r s:Int×Int):dlt (rkD r) (rkD s)=decide (rlt r s):=by
 have e:dlt (rkD r) (rkD s)=(if deq (.int r.1) (.int s.1)=true then(if deq (.int r.2) (.int s.2)=true then false else decide (r.2<s.2)) else decide (r.1<s.1)):=rfl;have d:∀a b:Int,deq (.int a) (.int b)=decide (a=b):=λa b=>rfl
 rw[e,d,d];unfold rlt
 by_cases h1:r.1=s.1
 ·by_cases h2:r.2=s.2
  ·simp[h1,h2]
  ·simp[h1,h2]
 ·have:¬ (r.1=s.1/\r.2<s.2):=λz=>h1 z.1
  simp[h1]
theorem uC(bt:Nat->Nat->Bool):∀k,Ac bt k<=k
 |0=>aP _
 |k+1=>by
  show(if bt (k+1) (Ac bt k)=true then k+1 else Ac bt k)<=k+1
  split
  ·exact aP _
  ·exact Nat.le_succ_of_le<|uC bt k
theorem wP(rs:List (Int×Int)):∀k,k<rs.length->∀j,j<=k->¬ rlt (rs.getD j (0,0)) (rs.getD (Ac (λi k=>decide (rlt (rs.getD i (0,0))<|rs.getD k (0,0))) k) (0,0))
 |0,_,j,hj=>by
  have:j=0:=by omega
  subst this;show ¬ rlt _ (rs.getD 0 (0,0));unfold rlt;omega
 |k+1,hk,j,hj=>by
  have ih:=wP rs k (by omega);generalize hb:Ac (λi k=>decide (rlt (rs.getD i (0,0))<|rs.getD k (0,0))) k=bk at ih
  have e:Ac (λi k=>decide (rlt (rs.getD i (0,0))<|rs.getD k (0,0))) (k+1)=if decide (rlt (rs.getD (k+1) (0,0))<|rs.getD bk (0,0))=true then k+1 else bk:=by rw[<-hb];rfl
  rw[e]
  by_cases q:rlt (rs.getD (k+1) (0,0)) (rs.getD bk (0,0))
  ·rw[if_pos<|decide_eq_true q]
   by_cases hjk:j=k+1
   ·subst hjk;unfold rlt;omega
   ·have:=ih j (by omega);unfold rlt at *;omega
  ·rw[if_neg<|by rw[decide_eq_false q];decide]
   by_cases hjk:j=k+1
   ·subst hjk;exact q
   ·exact ih j<|by omega
theorem pW{bt bt':Nat->Nat->Bool}:∀k,(∀i j,i<=k->j<=k->bt i j=bt' i j)->Ac bt k=Ac bt' k
 |0,_=>rfl
 |k+1,h=>by
  have ih:=pW k λi j hi hj=>h i j (by omega)<|by omega
  show(if bt (k+1) (Ac bt k)=true then k+1 else Ac bt k)=(if bt' (k+1) (Ac bt' k)=true then k+1 else Ac bt' k);have:=uC bt' k;rw[ih,h (k+1) (Ac bt' k) (aP _)<|by omega]
theorem aLV(hu:X.A.units+4<AO){T:WtT}(hne:T≠[]):aIi X ((wtK T).map nF)/\∃t:(Int×Int)×List Pr2,T[jS<|(wtK T).map nF]? =some t/\((wtK T).map nF)[jS<|(wtK T).map nF]? =some (rkD t.1)/\(wtK T)[jS<|(wtK T).map nF]? =some (rkK t.1)/\(wtD T)[jS<|(wtK T).map nF]? =some (t.2.map p2D)/\∀s∈T,¬ rlt s.1 t.1:=by
 have l0:0<T.length:=gW.mpr hne
 have em:(wtK T).map nF=T.map λt=>rkD t.1:=by unfold wtK;rw[bB];rfl
 have ln:((wtK T).map nF).length=T.length:=by rw[em,aA]
 have mem:∀d∈(wtK T).map nF,∃r,d=rkD r:=λd hd=>by rw[em] at hd;obtain⟨t,_,rfl⟩:=aQ.mp hd;exact⟨t.1,rfl⟩
 have gd:∀i,i<T.length->((wtK T).map nF).getD i .non=rkD ((T.map (·.1)).getD i (0,0)):=λi hi=>by rw[em];simp[cB,hi]
 have eb:jS ((wtK T).map nF)=Ac (λi k=>decide (rlt ((T.map (·.1)).getD i (0,0)) ((T.map (·.1)).getD k (0,0)))) (T.length-1):=by unfold jS;rw[ln];exact pW _ λi j hi hj=>by rw[gd i<|by omega,gd j<|by omega,aGV]
 have bl:=uC (λi k=>decide (rlt ((T.map (·.1)).getD i (0,0)) ((T.map (·.1)).getD k (0,0))))<|T.length-1;have bm:=wP (T.map (·.1)) (T.length-1) (by rw[aA];omega);rw[<-eb] at bl bm;generalize jS ((wtK T).map nF)=n at bl bm;have hn:n<T.length:=by omega
 have hT:T[n]? =some T[n]:=eV hn;refine⟨⟨by rw[ln];exact l0,λd hd d2 hd2=> ?_,λd hd=> ?_,λd hd=> ?_⟩,T[n],hT, ?_, ?_, ?_,λs hs=> ?_⟩
 ·obtain⟨r,rfl⟩:=mem d hd;obtain⟨r2,rfl⟩:=mem d2 hd2;rfl
 ·obtain⟨r,rfl⟩:=mem d hd;rfl
 ·obtain⟨r,rfl⟩:=mem d hd;show X.A.units+1+1<AO;omega
 ·rw[em,aS,hT];rfl
 ·unfold wtK;rw[aS,hT];rfl
 ·unfold wtD;rw[aS,hT];rfl
 ·obtain⟨j,hj⟩:=cX hs;have lj:j<T.length:=(aD.mp hj).1;have:=bm j (by omega);have e1:(T.map (·.1)).getD j (0,0)=s.1:=by simp[cB,hj]
  have e2:(T.map (·.1)).getD n (0,0)=T[n].1:=by simp[cB,hn]
  rw[e1,e2] at this;exact this
noncomputable def llt:List Int->List Int->Bool
 |[],[]=>false
 |[],_::_=>true
 |_::_,[]=>false
 |x::a,y::b=>if x=y then llt a b else decide (x<y)
theorem aHV:∀a b:List Int,pN (a.map D.int) (b.map D.int)=llt a b
 |[],[]=>rfl
 |[],_::_=>rfl
 |_::_,[]=>rfl
 |x::a,y::b=>by
  have e:pN ((x::a).map D.int) ((y::b).map D.int)=if decide (x=y)=true then pN (a.map D.int) (b.map D.int) else decide (x<y):=rfl
  rw[e,aHV a b];show _=if x=y then llt a b else decide (x<y)
  by_cases h:x=y
  ·rw[if_pos<|decide_eq_true h,if_pos h]
  ·rw[if_neg (by rw[decide_eq_false h];decide),if_neg h]
theorem rG:∀a:List Int,llt a a=false
 |[]=>rfl
 |x::a=>by show(if x=x then llt a a else decide (x<x))=false;rw[if_pos rfl];exact rG a
theorem zB:∀a b:List Int,a≠b->llt a b=true\/llt b a=true
 |[],[],h=>absurd rfl h
 |[],_::_,_=>.inl rfl
 |_::_,[],_=>.inr rfl
 |x::a,y::b,h=>by
  show(if x=y then llt a b else decide (x<y))=true\/(if y=x then llt b a else decide (y<x))=true
  by_cases e:x=y
  ·subst e;rw[if_pos rfl,if_pos rfl];exact zB a b λz=>h (by rw[z])
  ·rw[if_neg e,if_neg λz=>e z.symm,decide_eq_true_iff,decide_eq_true_iff];omega
theorem vO:∀a b c:List Int,llt a b=true->llt b c=true->llt a c=true
 |[],[],_,h,_=>by cases h
 |[],_::_,[],_,h=>by cases h
 |[],_::_,_::_,_,_=>rfl
 |_::_,[],_,h,_=>by cases h
 |_::_,_::_,[],_,h=>by cases h
 |x::a,y::b,z::c,h1,h2=>by
  have h1:(if x=y then llt a b else decide (x<y))=true:=h1;have h2:(if y=z then llt b c else decide (y<z))=true:=h2;show(if x=z then llt a c else decide (x<z))=true
  by_cases e1:x=y
  ·subst e1;rw[if_pos rfl] at h1
   by_cases e2:x=z
   ·subst e2;rw[if_pos rfl] at h2 ⊢;exact vO a b c h1 h2
   ·rw[if_neg e2] at h2 ⊢;exact h2
  ·rw[if_neg e1] at h1;have h1:=of_decide_eq_true h1
   by_cases e2:y=z
   ·subst e2;rw[if_neg e1];exact decide_eq_true h1
   ·rw[if_neg e2] at h2;have h2:=of_decide_eq_true h2;rw[if_neg<|by omega];exact decide_eq_true<|by omega
noncomputable def plt(x y:Pr2):Bool:=if x.1=y.1 then llt x.2 y.2 else llt x.1 y.1
theorem aLl(a b:List Int):deq (bJ a) (bJ b)=decide (a=b):=aAW a b
theorem aNN(x y:Pr2):dlt (p2D x) (p2D y)=plt x y:=by
 have e:dlt (p2D x) (p2D y)=if deq (bJ x.1) (bJ y.1)=true then(if deq (bJ x.2) (bJ y.2)=true then false else pN (x.2.map D.int) (y.2.map D.int)) else pN (x.1.map D.int) (y.1.map D.int):=rfl
 rw[e,aLl,aLl,aHV,aHV];unfold plt
 by_cases h:x.1=y.1
 ·rw[if_pos<|decide_eq_true h,if_pos h]
  by_cases h2:x.2=y.2
  ·rw[if_pos<|decide_eq_true h2,h2,rG]
  ·rw[if_neg<|by rw[decide_eq_false h2];decide]
 ·rw[if_neg (by rw[decide_eq_false h];decide),if_neg h]
theorem aJR(x:Pr2):plt x x=false:=by unfold plt;rw[if_pos rfl];exact rG _
theorem zS{x y:Pr2}(h:x≠y):plt x y=true\/plt y x=true:=by
 unfold plt
 by_cases e:x.1=y.1
 ·rw[if_pos e,if_pos e.symm];exact zB _ _ λz=>h<|Prod.ext e z
 ·rw[if_neg e,if_neg λz=>e z.symm];exact zB _ _ e
theorem aGO{x y z:Pr2}(h1:plt x y=true)(h2:plt y z=true):plt x z=true:=by
 unfold plt at *
 by_cases e1:x.1=y.1
 ·rw[if_pos e1] at h1
  by_cases e2:y.1=z.1
  ·rw[if_pos e2] at h2;rw[if_pos<|e1.trans e2];exact vO _ _ _ h1 h2
  ·rw[if_neg e2] at h2;rw[e1,if_neg e2];exact h2
 ·rw[if_neg e1] at h1
  by_cases e2:y.1=z.1
  ·rw[<-e2,if_neg e1];exact h1
  ·rw[if_neg e2] at h2
   by_cases e3:x.1=z.1
   ·have:=vO _ _ _ h1 h2;rw[e3,rG] at this;cases this
   ·rw[if_neg e3];exact vO _ _ _ h1 h2
noncomputable def rkP(ps:List Pr2)(x:Pr2):Nat:=(ps.filter λy=>plt y x).length
theorem uW{x y:Pr2}(hx:x∈ps)(h:plt x y=true):rkP ps x<rkP ps y:=by
 unfold rkP
 have e:ps.filter (λz=>plt z x)=(ps.filter λz=>plt z y).filter λz=>plt z x:=by
  rw[List.filter_filter];refine aHM λz _=> ?_
  cases q:plt z x with
  |false=>rfl
  |true=>rw[aGO q h];rfl
 rw[e];refine List.length_filter_lt_length_iff_exists.mpr ⟨x,gK.mpr ⟨hx,h⟩, ?_⟩;rw[aJR];decide
theorem aMA(nd:ps.Nodup)(hl:ps.length<=10000)(hu:A.units+8<AO):SrtP A ps (rkP ps):=by
 have key:∀x∈ps,∀y∈ps,x≠y->rkP ps x≠rkP ps y:=λx hx y hy ne=>by
  rcases zS ne with h|h
  ·exact bN<|uW hx h
  ·exact jW<|uW hy h
 refine⟨hl,λx hx y hy=> ?_, ?_,hu⟩
 ·rw[aNN];cases h:plt x y with
  |true=>exact(decide_eq_true<|uW hx h).symm
  |false=>
   refine(decide_eq_false λq=> ?_).symm
   by_cases e:x=y
   ·rw[e] at q;omega
   ·rcases zS e with z|z
    ·rw[h] at z;cases z
    ·have:=uW hy z;omega
 ·unfold List.Nodup;rw[jT];exact List.Pairwise.imp_of_mem (λ{a b} ha hb h=>key a ha b hb h) nd
noncomputable def aHQ(x:Pr2):List Pr2->List Pr2
 |[]=>[x]
 |y::l=>if plt x y then x::y::l else y::aHQ x l
noncomputable def gS:List Pr2->List Pr2
 |[]=>[]
 |x::l=>aHQ x<|gS l
theorem sY(x:Pr2):∀l,(aHQ x l).Perm (x::l)
 |[]=>.refl _
 |y::l=>by
  show(if plt x y then x::y::l else y::aHQ x l).Perm _
  split
  ·exact .refl _
  ·exact((sY x l).cons y).trans<|.swap x y l
theorem gZ:∀l,(gS l).Perm l
 |[]=>.refl _
 |x::l=>(sY x<|gS l).trans<|(gZ l).cons x
theorem aDa{x:Pr2}:∀ {l:List Pr2},x∉l->l.Pairwise (λa b=>plt a b=true)->(aHQ x l).Pairwise (λa b=>plt a b=true)
 |[],_,_=>by simp[aHQ]
 |y::l,h,p=>by
  obtain⟨p1,p2⟩:=jJ.mp p;show(if plt x y then x::y::l else y::aHQ x l).Pairwise _
  by_cases q:plt x y=true
  ·rw[if_pos q];refine jJ.mpr ⟨λz hz=> ?_,p⟩
   rcases aU.mp hz with rfl|hz
   ·exact q
   ·exact aGO q<|p1 z hz
  ·rw[if_neg q];refine jJ.mpr ⟨λz hz=> ?_,aDa (λz=>h<|aF _ z) p2⟩
   rcases aU.mp ((sY x l).mem_iff.mp hz) with rfl|hz
   ·rcases zS (x:=z) (y:=y) (λe=>h<|e▸aG) with w|w
    ·exact absurd w q
    ·exact w
   ·exact p1 z hz
theorem aAl:∀ {l:List Pr2},l.Nodup->(gS l).Pairwise (λa b=>plt a b=true)
 |[],_=>List.Pairwise.nil
 |x::l,h=>by obtain⟨h1,h2⟩:=bH.mp h;exact aDa (λz=>h1<|(gZ l).mem_iff.mp z)<|aAl h2
theorem aJX{qs:List Pr2}(nd:ps.Nodup)(hp:qs.Perm ps)(hs:(qs.map<|rkP ps).Pairwise (·<·)):qs=gS ps:=by refine List.Perm.eq_of_pairwise (le:=λx y=>rkP ps x<rkP ps y) (λx y _ _ h1 h2=>by omega) (by rw[jT] at hs;exact hs) ?_ (hp.trans (gZ ps).symm);exact List.Pairwise.imp_of_mem (λ{a b} ha _ h=>uW ((gZ ps).mem_iff.mp ha) h)<|aAl nd
noncomputable def eX(T:WtT):Nat:=jS<|(wtK T).map nF
noncomputable def fdT(p:Int×Int)(L:List SK)(b:Int)(S:FdS):FdS:=match S.T[eX S.T]? with
 |none=>S
 |some t=>fdP p L b t.1 {S with T:=S.T.eraseIdx (eX S.T)} (gS t.2)
noncomputable def iZ(p:Int×Int)(L:List SK)(b:Int):Nat->FdS->FdS
 |0,S=>S
 |k+1,S=>if S.T=[] then S else iZ p L b k (fdT p L b S)
noncomputable def inR(row:List Nat):List Int:=row.map λ(i:Nat)=>(i:Int)
theorem aJp{a b:List Nat}(h:inR a=inR b):a=b:=by
 have:(inR a).map qF=(inR b).map qF:=by rw[h]
 have g:∀l:List Nat,(inR l).map qF=l:=λl=>by unfold inR;rw[bB];exact(bW λi _=>dX i).trans<|kR l
 rwa[g,g] at this
noncomputable def rwP(y:Pr2):List Nat:=(unP y).1
noncomputable def itP(p:Int×Int)(L:List SK)(row:List Nat):Pr2:=nP (row,nrQ p L row)
theorem pP(p:Int×Int)(L:List SK)(row:List Nat):rwP (itP p L row)=row:=by unfold rwP itP;rw[aCn]
theorem aKU(p:Int×Int)(L:List SK)(row:List Nat):unP (itP p L row)=(row,nrQ p L row):=aCn _
noncomputable def rkR(L:List SK)(row:List Nat):Int×Int:=(S45.prQ (prK L) row,(row.length:Int))
def klt(L:List SK)(a c:List Nat):Prop:=rlt (rkR L a) (rkR L c)\/(rkR L a=rkR L c/\llt (inR a) (inR c)=true)
def kle(L:List SK)(a c:List Nat):Prop:=a=c\/klt L a c
theorem aMr{a b c:Int×Int}(h:rlt a b)(h2:rlt b c):rlt a c:=by unfold rlt at *;omega
theorem aIO{a b:Int×Int}(h:a≠b)(h2:¬ rlt b a):rlt a b:=by
 obtain⟨a1,a2⟩:=a;obtain⟨b1,b2⟩:=b;unfold rlt at *;have:¬ (a1=b1/\a2=b2):=λz=>h (by rw[z.1,z.2])
 simp only at *;omega
theorem aHB{a b c:List Nat}(h:klt L a b)(h2:klt L b c):klt L a c:=by
 rcases h with h|⟨e,h⟩<;>rcases h2 with h2|⟨e2,h2⟩
 ·exact .inl<|aMr h h2
 ·exact .inl<|e2▸h
 ·exact .inl<|e▸h2
 ·exact .inr ⟨e.trans e2,vO _ _ _ h h2⟩
theorem aHJ{a b c:List Nat}(h:kle L a b)(h2:kle L b c):kle L a c:=by
 rcases h with rfl|h
 ·exact h2
 ·rcases h2 with rfl|h2
  ·exact .inr h
  ·exact .inr<|aHB h h2
theorem aBh{x:Int}:∀ {a b:List Int},a.length=b.length->llt a b=true->llt (a++[x]) (b++[x])=true
 |[],[],_,h=>by cases h
 |[],_::_,h,_=>by cases h
 |_::_,[],h,_=>by cases h
 |u::a,v::b,hl,h=>by
  have h:(if u=v then llt a b else decide (u<v))=true:=h;show(if u=v then llt (a++[x]) (b++[x]) else decide (u<v))=true
  by_cases e:u=v
  ·rw[if_pos e] at h ⊢;exact aBh (by simpa using hl) h
  ·rw[if_neg e] at h ⊢;exact h
theorem pA(L:List SK)(a:List Nat)(k:Nat):rkR L (a++[k])=((rkR L a).1+prK L k,(rkR L a).2+1):=by unfold rkR;rw[S45.pr_snoc,aN];rfl
theorem aFW{a c:List Nat}(k:Nat)(h:kle L a c):kle L (a++[k]) (c++[k]):=by
 rcases h with rfl|h|⟨e,h⟩
 ·exact .inl rfl
 ·refine .inr<|.inl ?_;rw[pA,pA];unfold rlt at *;simp only;omega
 ·refine .inr (.inr ⟨by rw[pA,pA,e], ?_⟩)
  have el:a.length=c.length:=by have:=congrArg Prod.snd e;have:(a.length:Int)=(c.length:Int):=this;omega
  show llt ((a++[k]).map λ(i:Nat)=>(i:Int)) ((c++[k]).map λ(i:Nat)=>(i:Int))=true;rw[aW,aW];exact aBh (by rw[aA,aA];exact el) h
noncomputable def wrR(T:WtT):List (List Nat):=T.flatMap λt=>t.2.map rwP
theorem wrR_mem{T:WtT}{row:List Nat}:row∈wrR T↔∃t∈T,∃y∈t.2,rwP y=row:=by
 unfold wrR;rw[dI]
 constructor
 ·rintro⟨t,ht,h⟩;obtain⟨y,hy,e⟩:=aQ.mp h;exact⟨t,ht,y,hy,e⟩
 ·rintro⟨t,ht,y,hy,e⟩;exact⟨t,ht,aQ.mpr ⟨y,hy,e⟩⟩
theorem yL(r:Int×Int)(x:Pr2):∀T:WtT,(wrR<|jQ T r x).Perm (rwP x::wrR T)
 |[]=>.refl _
 |t::T=>by
  show(wrR (if t.1=r then(t.1,t.2++[x])::T else t::jQ T r x)).Perm _
  split
  ·show((t.2++[x]).map rwP++wrR T).Perm (rwP x::(t.2.map rwP++wrR T));rw[aW,dW];exact nQ
  ·show(t.2.map rwP++wrR (jQ T r x)).Perm (rwP x::(t.2.map rwP++wrR T));exact((yL r x T).append_left _).trans nQ
theorem aBn{r:Int×Int}{x:Pr2}:∀ {T:WtT}{t':(Int×Int)×List Pr2},(∀t∈T,t.2≠[])->t'∈jQ T r x->t'.2≠[]/\∀y∈t'.2,(y=x/\t'.1=r)\/∃t∈T,t.1=t'.1/\y∈t.2
 |[],t',_,h=>by
  have:t'=(r,[x]):=by simpa[jQ] using h
  subst this;exact⟨by simp,λy hy=>.inl ⟨by simpa using hy,rfl⟩⟩
 |t::T,t',hn,h=>by
  have h:t'∈(if t.1=r then(t.1,t.2++[x])::T else t::jQ T r x):=h
  by_cases e:t.1=r
  ·rw[if_pos e] at h
   rcases aU.mp h with rfl|h
   ·refine⟨by simp,λy hy=> ?_⟩
    rcases aM.mp hy with hy|hy
    ·exact .inr ⟨t,aG,rfl,hy⟩
    ·exact .inl ⟨by simpa using hy,e⟩
   ·exact⟨hn _<|aF _ h,λy hy=>.inr ⟨t',aF _ h,rfl,hy⟩⟩
  ·rw[if_neg e] at h
   rcases aU.mp h with rfl|h
   ·exact⟨hn _ aG,λy hy=>.inr ⟨t',aG,rfl,hy⟩⟩
   ·obtain⟨h1,h2⟩:=aBn (λz hz=>hn z<|aF _ hz) h;exact⟨h1,λy hy=>(h2 y hy).imp id λ⟨z,hz,q⟩=>⟨z,aF _ hz,q⟩⟩
variable {p:Int×Int}{b:Int}{r:Int×Int}{row nb:List Nat}{T:WtT}
noncomputable def chs(L:List SK)(b:Int)(r:Int×Int)(row:List Nat)(n:Nat):List (List Nat):=((bM n).filter λk=>decide<|r.1+prK L k<=b).map λk=>row++[k]
theorem chs_mem{c:List Nat}:c∈chs L b r row n↔∃k,k<n/\r.1+prK L k<=b/\c=row++[k]:=by
 unfold chs;rw[aQ]
 constructor
 ·rintro⟨k,hk,rfl⟩;obtain⟨h1,h2⟩:=gK.mp hk;exact⟨k,cE.mp h1,of_decide_eq_true h2,rfl⟩
 ·rintro⟨k,h1,h2,rfl⟩;exact⟨k,gK.mpr ⟨cE.mpr h1,decide_eq_true h2⟩,rfl⟩
theorem aLx(n:Nat):(chs L b r row n).Nodup:=by unfold chs List.Nodup;rw[jT];refine List.Pairwise.imp (λ{a c} h e=>h ?_) (List.Pairwise.filter _<|aKh (n:=n));simpa using List.append_cancel_left e
theorem aDo:∀n:Nat,(wrR<|lgQ p L b r row nb n T).Perm (chs L b r row n++wrR T)
 |0=>.refl _
 |n+1=>by
  have ih:=aDo n
  have ec:chs L b r row (n+1)=chs L b r row n++(if r.1+prK L n<=b then[row++[n]] else[]):=by
   unfold chs;rw[aKw,sD,aW];congr 1
   by_cases h:r.1+prK L n<=b
   ·simp[h]
   ·simp[h]
  rw[ec];show(wrR (if r.1+(L.getD n AN).2<=b then jQ _ _ _ else _)).Perm _
  by_cases h:r.1+prK L n<=b
  ·rw[if_pos h,if_pos (show r.1+(L.getD n AN).2<=b from h)];refine(yL _ _ _).trans ?_
   have e:rwP (nP (row++[n],fH (fS p (L.getD n AN).1) nb))=row++[n]:=by unfold rwP;rw[aCn]
   rw[e,dW];exact(ih.cons _).trans nQ.symm
  ·rw[if_neg h,if_neg (show ¬ r.1+(L.getD n AN).2<=b from h),cM];exact ih
theorem yV:∀ (n:Nat) {t':(Int×Int)×List Pr2},(∀t∈T,t.2≠[])->t'∈lgQ p L b r row nb n T->t'.2≠[]/\∀y∈t'.2,(∃k,k<n/\r.1+prK L k<=b/\t'.1=(r.1+prK L k,r.2+1)/\y=nP (row++[k],fH (fS p (L.getD k AN).1) nb))\/∃t∈T,t.1=t'.1/\y∈t.2
 |0,t',hn,h=>⟨hn t' h,λy hy=>.inr ⟨t',h,rfl,hy⟩⟩
 |n+1,t',hn,h=>by
  have h:t'∈(if r.1+(L.getD n AN).2<=b then jQ (lgQ p L b r row nb n T) (r.1+(L.getD n AN).2,r.2+1) (nP (row++[n],fH (fS p (L.getD n AN).1) nb)) else lgQ p L b r row nb n T):=h;have old:∀t∈lgQ p L b r row nb n T,t.2≠[]:=λt ht=>(yV n hn ht).1
  by_cases q:r.1+(L.getD n AN).2<=b
  ·rw[if_pos q] at h;obtain⟨h1,h2⟩:=aBn old h;refine⟨h1,λy hy=> ?_⟩
   rcases h2 y hy with⟨e1,e2⟩|⟨t,ht,e,hy2⟩
   ·exact .inl ⟨n,by omega,q,e2,e1⟩
   ·rcases(yV n hn ht).2 y hy2 with⟨k,k1,k2,k3,k4⟩|⟨s,s1,s2,s3⟩
    ·exact .inl ⟨k,by omega,k2,e▸k3,k4⟩
    ·exact .inr ⟨s,s1,s2.trans e,s3⟩
  ·rw[if_neg q] at h;obtain⟨h1,h2⟩:=yV n hn h;exact⟨h1,λy hy=>(h2 y hy).imp (λ⟨k,k1,k2⟩=>⟨k,by omega,k2⟩) id⟩
theorem aHi:∀ {T:WtT},(∀t∈T,t.2≠[])->tot T<=2*(wrR T).length
 |[],_=>aP _
 |t::T,h=>by
  have ih:=aHi (T:=T) λz hz=>h z<|aF _ hz
  have h1:0<t.2.length:=gW.mpr<|h t aG;have e1:tot (t::T)=(t.2.length+1)+tot T:=by simp[tot]
  have e2:(wrR (t::T)).length=t.2.length+(wrR T).length:=by show(t.2.map rwP++wrR T).length=_;rw[aN,aA]
  omega
def Cov(p:Int×Int)(L:List SK)(S:FdS)(rest:List Pr2)(row:List Nat):Prop:=row∈wrR S.T\/row∈rest.map rwP\/∃e∈S.fd,e.2.2=nrQ p L row/\kle L e.2.1 row
structure Wk(p:Int×Int)(L:List SK)(b:Int)(dn:List (List Nat))(r:Int×Int)(rest:List Pr2)(S:FdS):Prop where
 ok:aNu S
 ne:∀t∈S.T,t.2≠[]
 wt:∀t∈S.T,∀y∈t.2,∃row,y=itP p L row/\fY L row/\t.1=rkR L row/\t.1.1<=b
 rs:∀y∈rest,∃row,y=itP p L row/\fY L row/\r=rkR L row/\r.1<=b
 up:rest.Pairwise λx y=>plt x y=true
 gt:rest≠[]->∀t∈S.T,rlt r t.1
 nd:(dn++rest.map rwP++wrR S.T).Nodup
 fd:∀e∈S.fd,e.2.1∈dn/\fY L e.2.1/\e.1=S45.prQ (prK L) e.2.1/\e.1<=b/\e.2.2=nrQ p L e.2.1
 par:∀row,row∈dn++rest.map rwP++wrR S.T->row=[]\/∃q k,row=q++[k]/\q∈S.fd.map λe=>e.2.1
 du:∀row∈dn,fY L row/\S45.prQ (prK L) row<=b
 srt:(S.fd.map λe=>e.2.1).Pairwise (klt L)
 lt1:∀e∈S.fd,∀y∈rest,klt L e.2.1<|rwP y
 lt2:∀e∈S.fd,∀row∈wrR S.T,klt L e.2.1 row
 cl:∀e∈S.fd,∀k,k<L.length->e.1+prK L k<=b->Cov p L S rest (e.2.1++[k])
 st:0<=b->Cov p L S rest []
variable {dn:List (List Nat)}{rest:List Pr2}{S:FdS}{U:List (List Nat)}
noncomputable def aIb(n:Nat)(fd:List (List Nat)):List (List Nat):=[]::fd.flatMap λq=>(bM n).map λk=>q++[k]
theorem aGj(n:Nat)(fd:List (List Nat)):(aIb n fd).length=1+fd.length*n:=by
 unfold aIb;rw[bU,List.length_flatMap];have:(fd.map λq=>((bM n).map λk=>q++[k]).length)=fd.map λ_=>n:=bW λq _=>by rw[aA,fN]
 rw[this,List.map_const',List.sum_replicate_nat];omega
theorem Wk.okR(W:Wk p L b dn r rest S):∀row∈dn++rest.map rwP++wrR S.T,fY L row/\S45.prQ (prK L) row<=b:=λrow h=>by
 rcases aM.mp h with h|h
 ·rcases aM.mp h with h|h
  ·exact W.du row h
  ·obtain⟨y,hy,e⟩:=aQ.mp h;obtain⟨q,rfl,q2,q3,q4⟩:=W.rs y hy;rw[pP] at e;subst e;exact⟨q2,by rw[q3] at q4;exact q4⟩
 ·obtain⟨t,ht,y,hy,e⟩:=wrR_mem.mp h;obtain⟨q,rfl,q2,q3,q4⟩:=W.wt t ht y hy;rw[pP] at e;subst e;exact⟨q2,by rw[q3] at q4;exact q4⟩
theorem Wk.few2(W:Wk p L b dn r rest S):dn.length+rest.length+(wrR S.T).length<=1+S.fd.length*L.length:=by
 have:=W.nd.length_le_of_subset (l₂:=aIb L.length<|S.fd.map λe=>e.2.1) λrow h=>by
  rcases W.par row h with rfl|⟨q,k,rfl,hq⟩
  ·exact aG ..
  ·refine aF _<|dI.mpr ⟨q,hq,aQ.mpr ⟨k,cE.mpr ?_,rfl⟩⟩;exact(W.okR _ h).1 k<|by simp
 rw[aGj,aN,aN,aA,aA] at this;exact this
theorem Wk.tot2(W:Wk p L b dn r rest S):DL.tot S.T<=2*(1+S.fd.length*L.length):=by have:=aHi W.ne;have:=W.few2;omega
theorem Wk.step(hpr:∀k,k<L.length->1<=prK L k){y:Pr2}(W:Wk p L b dn r (y::rest) S):Wk p L b (dn++[rwP y]) r rest (fdI p L b r S<|unP y):=by
 obtain⟨row,ey,ro,er,rb⟩:=W.rs y aG;subst ey;have up:=jJ.mp W.up;have rp:S45.prQ (prK L) row<=b:=by rw[er] at rb;exact rb
 rw[aKU];have ew:(itP p L row::rest).map rwP=row::rest.map rwP:=by rw[bA,pP]
 have nd:=W.nd;have par:=W.par;rw[ew] at nd par;have e1:dn++row::rest.map rwP=(dn++[row])++rest.map rwP:=by simp
 rw[e1] at nd par;rw[pP]
 have cv:∀c,Cov p L S (itP p L row::rest) c->c=row\/Cov p L S rest c:=λc h=>by
  rcases h with h|h|h
  ·exact .inr<|.inl h
  ·rw[ew] at h
   rcases aU.mp h with h|h
   ·exact .inl h
   ·exact .inr (.inr<|.inl h)
  ·exact .inr (.inr<|.inr h)
 have du:∀c∈dn++[row],fY L c/\S45.prQ (prK L) c<=b:=λc h=>by
  rcases aM.mp h with h|h
  ·exact W.du c h
  ·rw[aE.mp h];exact⟨ro,rp⟩
 have rs:∀y∈rest,∃row,y=itP p L row/\fY L row/\r=rkR L row/\r.1<=b:=λz hz=>W.rs z<|aF _ hz
 have gt:=W.gt (by simp);unfold fdI
 by_cases hk:nrQ p L row∈S.kn
 ·rw[if_pos hk];rw[W.ok.kn] at hk;obtain⟨e,he,en⟩:=aQ.mp hk
  have ke:klt L e.2.1 row:=by have:=W.lt1 e he _ aG;rw[pP] at this;exact this
  have cv2:∀c,Cov p L S (itP p L row::rest) c->Cov p L S rest c:=λc h=>by
   rcases cv c h with rfl|h
   ·exact .inr<|.inr ⟨e,he,en,.inr ke⟩
   ·exact h
  exact⟨W.ok,W.ne,W.wt,rs,up.2,λ_=>gt,nd,λe he=>⟨aZ _ (W.fd e he).1,(W.fd e he).2⟩,par,du,W.srt,λe he z hz=>W.lt1 e he z<|aF _ hz,W.lt2,λe he k hk hle=>cv2 _<|W.cl e he k hk hle,λh=>cv2 _<|W.st h⟩
 ·have ok:=aMs (p:=p) (L:=L) (b:=b) (r:=r) W.ok (row,nrQ p L row);unfold fdI at ok;rw[if_neg hk] at ok ⊢;have pm:=aDo (p:=p) (L:=L) (b:=b) (r:=r) (row:=row) (nb:=nrQ p L row) (T:=S.T) L.length;have lm:=λt' h=>yV (p:=p) (L:=L) (b:=b) (r:=r) (row:=row) (nb:=nrQ p L row) (T:=S.T) L.length (t':=t') W.ne h
  have rno:row∉S.fd.map λe=>e.2.1:=λh=>by obtain⟨e,he,ee⟩:=aQ.mp h;have:=(W.fd e he).1;rw[ee] at this;have n2:=(bE.mp (bE.mp nd).1).1;exact(bE.mp n2).2.2 row this row (by simp) rfl
  have mem':∀c,c∈wrR (lgQ p L b r row (nrQ p L row) L.length S.T)↔c∈chs L b r row L.length\/c∈wrR S.T:=λc=>by rw[pm.mem_iff,aM]
  have ch_lt:∀c∈chs L b r row L.length,klt L row c:=λc h=>by obtain⟨k,k1,k2,rfl⟩:=chs_mem.mp h;refine .inl ?_;rw[pA];have:=hpr k k1;unfold rlt;simp only;omega
  have T_lt:∀c∈wrR S.T,klt L row c:=λc h=>by obtain⟨t,ht,y,hy,e⟩:=wrR_mem.mp h;obtain⟨q,rfl,q2,q3,q4⟩:=W.wt t ht y hy;rw[pP] at e;subst e;refine .inl ?_;rw[<-er,<-q3];exact gt t ht
  have rest_lt:∀z∈rest,klt L row (rwP z):=λz hz=>by
   obtain⟨q,rfl,q2,q3,q4⟩:=rs z hz;rw[pP];refine .inr ⟨er.symm.trans q3, ?_⟩;have:=up.1 _ hz;unfold plt at this
   by_cases e:(itP p L row).1=(itP p L q).1
   ·exfalso;have e2:row=q:=aJp e;subst e2;rw[if_pos rfl,rG] at this;cases this
   ·rw[if_neg e] at this;exact this
  have cvn:∀c,Cov p L S (itP p L row::rest) c->Cov p L ⟨lgQ p L b r row (nrQ p L row) L.length S.T,S.kn++[nrQ p L row],S.fd++[(r.1,row,nrQ p L row)]⟩ rest c:=λc h=>by
   rcases cv c h with rfl|h|h|⟨e,he,q⟩
   ·exact .inr<|.inr ⟨(r.1,c,nrQ p L c),aI _<|bL _,rfl,.inl rfl⟩
   ·exact .inl ((mem' c).mpr<|.inr h)
   ·exact .inr<|.inl h
   ·exact .inr<|.inr ⟨e,aZ _ he,q⟩
  have efd:(S.fd++[(r.1,row,nrQ p L row)]).map (λe=>e.2.1)=S.fd.map (λe=>e.2.1)++[row]:=by rw[aW];rfl
  refine⟨ok,λt h=>(lm t h).1,λt ht y hy=> ?_,rs,up.2,λ_ t ht=> ?_, ?_,λe he=> ?_,λc hc=> ?_,du, ?_,λe he z hz=> ?_,λe he c hc=> ?_,λe he k hk hle=> ?_,λh=>cvn _<|W.st h⟩
  ·rcases(lm t ht).2 y hy with⟨k,k1,k2,k3,k4⟩|⟨s,s1,s2,s3⟩
   ·refine⟨row++[k],by rw[k4];unfold itP;rw[uD],λi hi=> ?_,by rw[k3,pA,er],by rw[k3];exact k2⟩
    rcases aM.mp hi with hi|hi
    ·exact ro i hi
    ·rw[aE.mp hi];exact k1
   ·rw[<-s2];exact W.wt s s1 y s3
  ·obtain⟨h1,h2⟩:=lm t ht;obtain⟨y,hy⟩:=List.exists_mem_of_ne_nil _ h1
   rcases h2 y hy with⟨k,k1,k2,k3,k4⟩|⟨s,s1,s2,s3⟩
   ·rw[k3];have:=hpr k k1;unfold rlt;simp only;omega
   ·rw[<-s2];exact gt s s1
  ·have pm2:((dn++[row]++rest.map rwP)++wrR (lgQ p L b r row (nrQ p L row) L.length S.T)).Perm (chs L b r row L.length++((dn++[row]++rest.map rwP)++wrR S.T)):=(pm.append_left _).trans (by
    rw[<-dW,<-dW (chs L b r row L.length)]
    exact iE.append_right _)
   refine pm2.nodup_iff.mpr<|bE.mpr ⟨aLx _,nd,λc hc d hd e=> ?_⟩;subst e;obtain⟨k,k1,k2,rfl⟩:=chs_mem.mp hc
   rcases par _ hd with h|⟨q,j,h1,h2⟩
   ·simp at h
   ·have:row=q:=(List.append_inj' h1 rfl).1;subst this;exact rno h2
  ·rcases aM.mp he with he|he
   ·exact⟨aZ _ (W.fd e he).1,(W.fd e he).2⟩
   ·rw[aE.mp he];exact⟨aI _<|bL _,ro,by rw[er];rfl,rb,rfl⟩
  ·rw[efd]
   have h:c∈dn++[row]++rest.map rwP++wrR S.T\/c∈chs L b r row L.length:=by
    rcases aM.mp hc with h|h
    ·exact .inl<|aZ _ h
    ·rcases(mem' c).mp h with h|h
     ·exact .inr h
     ·exact .inl<|aI _ h
   rcases h with h|h
   ·exact(par c h).imp id λ⟨q,k,h1,h2⟩=>⟨q,k,h1,aZ _ h2⟩
   ·obtain⟨k,_,_,rfl⟩:=chs_mem.mp h;exact .inr ⟨row,k,rfl,aI _<|bL _⟩
  ·rw[efd];refine iU.mpr ⟨W.srt,jM _ _,λa ha c hc=> ?_⟩;rw[aE.mp hc];obtain⟨e,he,rfl⟩:=aQ.mp ha;have:=W.lt1 e he _ aG;rw[pP] at this;exact this
  ·rcases aM.mp he with he|he
   ·exact W.lt1 e he z<|aF _ hz
   ·rw[aE.mp he];exact rest_lt z hz
  ·rcases aM.mp he with he|he
   ·rcases(mem' c).mp hc with h|h
    ·have:=W.lt1 e he _ aG;rw[pP] at this;exact aHB this<|ch_lt c h
    ·exact W.lt2 e he c h
   ·rw[aE.mp he]
    rcases(mem' c).mp hc with h|h
    ·exact ch_lt c h
    ·exact T_lt c h
  ·rcases aM.mp he with he|he
   ·exact cvn _<|W.cl e he k hk hle
   ·rw[aE.mp he] at hle ⊢;exact .inl<|(mem' _).mpr (.inl<|chs_mem.mpr ⟨k,hk,hle,rfl⟩)
theorem Wk.pop{t:(Int×Int)×List Pr2}(W:Wk p L b dn r [] S)(hn:S.T[n]? =some t)(hm:∀s∈S.T,¬ rlt s.1 t.1):t.2.Nodup/\Wk p L b dn t.1 (gS t.2) {S with T:=S.T.eraseIdx n}:=by
 have tm:=aK hn;obtain⟨nl,en⟩:=aD.mp hn
 have pT:S.T.Perm (t::S.T.eraseIdx n):=by
  have e1:S.T=S.T.take n++t::S.T.drop (n+1):=by rw[<-en,<-eJ nl,iF]
  rw[dE];exact(e1▸List.Perm.refl S.T:S.T.Perm (S.T.take n++t::S.T.drop (n+1))).trans nQ
 have pw:(wrR S.T).Perm (t.2.map rwP++wrR (S.T.eraseIdx n)):=pT.flatMap_right _;have ps:((gS t.2).map rwP).Perm (t.2.map rwP):=(gZ t.2).map _;have nd:=W.nd;rw[dL,cM] at nd
 have pall:(dn++(gS t.2).map rwP++wrR (S.T.eraseIdx n)).Perm (dn++wrR S.T):=by rw[dW];exact((ps.append_right _).trans pw.symm).append_left _
 have ndt:t.2.Nodup:=by have h1:=(bE.mp<|pw.nodup_iff.mp (bE.mp nd).2.1).1;exact List.Pairwise.of_map _ (λa c h e=>h<|by rw[e]) h1
 have er:∀s∈S.T.eraseIdx n,s∈S.T:=λs hs=>jE hs
 have sub:∀c∈wrR (S.T.eraseIdx n),c∈wrR S.T:=λc hc=>pw.symm.mem_iff.mp<|aI _ hc
 have sub2:∀y∈gS t.2,rwP y∈wrR S.T:=λy hy=>pw.symm.mem_iff.mp (aZ _<|aQ.mpr ⟨y,(gZ t.2).mem_iff.mp hy,rfl⟩)
 have cv:∀c,Cov p L S [] c->Cov p L {S with T:=S.T.eraseIdx n} (gS t.2) c:=λc h=>by
  rcases h with h|h|h
  ·rcases aM.mp (pw.mem_iff.mp h) with h|h
   ·exact .inr (.inl<|ps.symm.mem_iff.mp h)
   ·exact .inl h
  ·cases h
  ·exact .inr<|.inr h
 have ek:wtK (S.T.eraseIdx n)=(wtK S.T).eraseIdx n:=by unfold wtK;rw[dE,dE,aW,mJ,rZ]
 refine⟨ndt,⟨by rw[ek];exact W.ok.nk.sublist<|eZ _ _,W.ok.kn,W.ok.nd⟩,λs hs=>W.ne s<|er s hs,λs hs=>W.wt s<|er s hs,λy hy=>W.wt t tm y<|(gZ t.2).mem_iff.mp hy,aAl ndt,λ_ s hs=> ?_,pall.nodup_iff.mpr nd,W.fd,λc hc=> ?_,W.du,W.srt,λe he y hy=>W.lt2 e he _<|sub2 y hy,λe he c hc=>W.lt2 e he c<|sub c hc,λe he k hk hle=>cv _<|W.cl e he k hk hle,λh=>cv _<|W.st h⟩
 ·refine aIO (λe=> ?_) (hm s<|er s hs);have nk:=W.ok.nk;have pk:(wtK S.T).Perm (rkK t.1::wtK (S.T.eraseIdx n)):=pT.map _;have:=(bH.mp<|pk.nodup_iff.mp nk).1;refine this ?_;rw[e];exact aQ.mpr ⟨s,hs,rfl⟩
 ·refine W.par c ?_;rw[dL,cM];exact pall.mem_iff.mp hc
theorem aGw(hne:T≠[]):∃t:(Int×Int)×List Pr2,T[eX T]? =some t/\∀s∈T,¬ rlt s.1 t.1:=by
 have l0:0<T.length:=gW.mpr hne
 have em:(wtK T).map nF=T.map λt=>rkD t.1:=by unfold wtK;rw[bB];rfl
 have ln:((wtK T).map nF).length=T.length:=by rw[em,aA]
 have gd:∀i,i<T.length->((wtK T).map nF).getD i .non=rkD ((T.map (·.1)).getD i (0,0)):=λi hi=>by rw[em];simp[cB,hi]
 have eb:eX T=Ac (λi k=>decide (rlt ((T.map (·.1)).getD i (0,0)) ((T.map (·.1)).getD k (0,0)))) (T.length-1):=by unfold eX jS;rw[ln];exact pW _ λi j hi hj=>by rw[gd i<|by omega,gd j<|by omega,aGV]
 have bl:=uC (λi k=>decide (rlt ((T.map (·.1)).getD i (0,0)) ((T.map (·.1)).getD k (0,0))))<|T.length-1;have bm:=wP (T.map (·.1)) (T.length-1) (by rw[aA];omega);rw[<-eb] at bl bm;generalize eX T=n at bl bm;have hn:n<T.length:=by omega
 refine⟨T[n],eV hn,λs hs=> ?_⟩;obtain⟨j,hj⟩:=cX hs;have lj:j<T.length:=(aD.mp hj).1;have:=bm j (by omega);have e1:(T.map (·.1)).getD j (0,0)=s.1:=by simp[cB,hj]
 have e2:(T.map (·.1)).getD n (0,0)=T[n].1:=by simp[cB,hn]
 rw[e1,e2] at this;exact this
noncomputable def fd0(p:Int×Int)(b:Int):FdS:=⟨if 0<=b then[((0,0),[nP ([],st0 p)])] else[],[],[]⟩
noncomputable def bkF(p:Int×Int)(L:List SK)(b:Int):List (Int×List Nat×List Nat):=(iZ p L b 4002<|fd0 p b).fd
theorem wk0(p:Int×Int)(L:List SK)(b:Int):Wk p L b [] (0,0) [] (fd0 p b):=by
 have e:nP ([],st0 p)=itP p L []:=rfl
 by_cases h:0<=b
 ·have e0:fd0 p b=⟨[((0,0),[itP p L []])],[],[]⟩:=by unfold fd0;rw[if_pos h,e]
  have ew:wrR [((0,0),[itP p L []])]=[[]]:=by show[rwP<|itP p L []]++[]=_;rw[pP];rfl
  rw[e0];refine⟨⟨by simp[wtK],rfl,cZ⟩,λt ht=> ?_,λt ht y hy=> ?_,λy hy=>(nomatch hy),List.Pairwise.nil,λh=>absurd rfl h, ?_,λe he=>(nomatch he),λrow hr=> ?_,λrow hr=>(nomatch hr),List.Pairwise.nil,λe he=>(nomatch he),λe he=>(nomatch he),λe he=>(nomatch he),λ_=>.inl ?_⟩
  ·rw[aE.mp ht];simp
  ·rw[aE.mp ht] at hy ⊢;exact⟨[],aE.mp hy,λi hi=>(nomatch hi),rfl,h⟩
  ·show(wrR [((0,0),[itP p L []])]).Nodup;rw[ew];simp
  ·have hr:row∈wrR [((0,0),[itP p L []])]:=hr;rw[ew] at hr;exact .inl<|aE.mp hr
  ·show[]∈wrR [((0,0),[itP p L []])];rw[ew];exact bL _
 ·have e0:fd0 p b=⟨[],[],[]⟩:=by unfold fd0;rw[if_neg h]
  rw[e0];exact⟨⟨cZ,rfl,cZ⟩,λt ht=>(nomatch ht),λt ht=>(nomatch ht),λy hy=>(nomatch hy),List.Pairwise.nil,λh=>absurd rfl h,cZ,λe he=>(nomatch he),λrow hr=>(nomatch hr),λrow hr=>(nomatch hr),List.Pairwise.nil,λe he=>(nomatch he),λe he=>(nomatch he),λe he=>(nomatch he),λz=>absurd z h⟩
theorem Wk.take(hpr:∀k,k<L.length->1<=prK L k)(W:Wk p L b dn r rest S):∀j,j<=rest.length->Wk p L b (dn++(rest.take j).map rwP) r (rest.drop j) (fdP p L b r S<|rest.take j)
 |0,_=>by rw[yP,dL,cM];exact W
 |j+1,hj=>by
  have ih:=Wk.take hpr W j (by omega);have lj:j<rest.length:=by omega
  rw[eJ lj] at ih;have:=ih.step hpr;rw[<-vB] at this
  have et:rest.take (j+1)=rest.take j++[rest[j]]:=by rw[eM,eV lj];rfl
  rw[et,aW,<-dW];exact this
theorem Wk.turn(hpr:∀k,k<L.length->1<=prK L k)(W:Wk p L b dn r [] S)(hne:S.T≠[]):∃t:(Int×Int)×List Pr2,S.T[eX S.T]? =some t/\(∀s∈S.T,¬ rlt s.1 t.1)/\t.2.Nodup/\t.2≠[]/\Wk p L b dn t.1 (gS t.2) {S with T:=S.T.eraseIdx (eX S.T)}/\fdT p L b S=fdP p L b t.1 {S with T:=S.T.eraseIdx (eX S.T)} (gS t.2)/\Wk p L b (dn++(gS t.2).map rwP) t.1 [] (fdT p L b S):=by
 obtain⟨t,ht,hm⟩:=aGw hne;obtain⟨n1,W1⟩:=W.pop ht hm
 have e:fdT p L b S=fdP p L b t.1 {S with T:=S.T.eraseIdx (eX S.T)} (gS t.2):=by unfold fdT;rw[ht]
 refine⟨t,ht,hm,n1,W.ne t<|aK ht,W1,e, ?_⟩;have:=W1.take hpr (gS t.2).length<|aP _;rw[eI,aKi] at this;rw[e];exact this
theorem wF(hpr:∀k,k<L.length->1<=prK L k){M:Nat}:∀ (m:Nat) {dn:List (List Nat)}{r:Int×Int}{S:FdS},Wk p L b dn r [] S->1+M*L.length<dn.length+m->∃dn' r',Wk p L b dn' r' [] (iZ p L b m S)/\((iZ p L b m S).T=[]\/M<(iZ p L b m S).fd.length)
 |0,dn,r,S,W,h=>by
  refine⟨dn,r,W,.inr ?_⟩;show M<S.fd.length;refine nV λq=> ?_
  have:=W.few2;have:=kY L.length q;omega
 |m+1,dn,r,S,W,h=>by
  show ∃dn' r',Wk p L b dn' r' [] (if S.T=[] then S else iZ p L b m (fdT p L b S))/\((if S.T=[] then S else iZ p L b m (fdT p L b S)).T=[]\/M<(if S.T=[] then S else iZ p L b m (fdT p L b S)).fd.length)
  by_cases q:S.T=[]
  ·rw[if_pos q];exact⟨dn,r,W,.inl q⟩
  ·rw[if_neg q];obtain⟨t,_,_,_,ne,_,_,W2⟩:=W.turn hpr q;refine wF hpr m W2 ?_
   have:0<(gS t.2).length:=by rw[(gZ t.2).length_eq];exact gW.mpr ne
   rw[aN,aA];omega
theorem zO(b:Int)(r:Int×Int):∀ (xs:List Pr2) (S:FdS),S.fd<+:(fdP p L b r S xs).fd
 |[],S=>kI _
 |y::xs,S=>by
  show S.fd<+:(fdP p L b r (fdI p L b r S<|unP y) xs).fd;refine List.IsPrefix.trans ?_<|zO b r xs _;unfold fdI
  split
  ·exact kI _
  ·exact List.prefix_append ..
theorem aJa(S:FdS):S.fd<+:(fdT p L b S).fd:=by
 unfold fdT
 split
 ·exact kI _
 ·exact zO b _ _ {S with T:=S.T.eraseIdx (eX S.T)}
theorem aDx:∀ (m:Nat) (S:FdS),S.fd<+:(iZ p L b m S).fd
 |0,S=>kI _
 |m+1,S=>by
  show S.fd<+:(if S.T=[] then S else iZ p L b m (fdT p L b S)).fd
  split
  ·exact kI _
  ·exact(aJa S).trans<|aDx m _
structure BkFOk(p:Int×Int)(L:List SK)(b:Int)(B:List (Int×List Nat×List Nat)):Prop where
 len:B.length<=500
 ent:∀e∈B,fY L e.2.1/\e.1=S45.prQ (prK L) e.2.1/\e.1<=b/\e.2.2=nrQ p L e.2.1/\e.2.1.length<=300
 nd:(B.map λe=>e.2.2).Nodup
 srt:(B.map λe=>e.2.1).Pairwise (klt L)
 cl:∀e∈B,∀k,k<L.length->e.1+prK L k<=b->∃e'∈B,e'.2.2=nrQ p L (e.2.1++[k])/\kle L e'.2.1 (e.2.1++[k])
 st:0<=b->∃e∈B,e.2.2=nrQ p L []/\kle L e.2.1 []
structure Fit(p:Int×Int)(L:List SK)(b:Int):Prop where
 l8:L.length<=8
 b3:b<=300
 le:(bkF p L b).length<=500
theorem aCs{pr:Nat->Int}:∀ (row:List Nat),(∀k∈row,1<=pr k)->(row.length:Int)<=S45.prQ pr row
 |[],_=>mL _
 |k::row,h=>by
  have ih:=aCs row λj hj=>h j<|aF _ hj
  have h1:=h k<|aG ..;show((row.length+1:Nat):Int)<=(pr k::row.map pr).sum;rw[aNj];unfold S45.prQ at ih;omega
theorem aIS(hpr:∀k,k<L.length->1<=prK L k)(F:Fit p L b):∃dn r,Wk p L b dn r [] (iZ p L b 4002<|fd0 p b)/\(iZ p L b 4002<|fd0 p b).T=[]:=by obtain⟨dn,r,W,e⟩:=wF (M:=500) hpr 4002 (wk0 p L b) (by have:=F.l8;simp;omega);exact⟨dn,r,W,e.resolve_right<|by have:=F.le;unfold bkF at this;omega⟩
theorem aCI(hpr:∀k,k<L.length->1<=prK L k)(F:Fit p L b):BkFOk p L b (bkF p L b):=by
 obtain⟨dn,r,W,e⟩:=aIS hpr F
 have cv:∀c,Cov p L (iZ p L b 4002<|fd0 p b) [] c->∃e∈(iZ p L b 4002<|fd0 p b).fd,e.2.2=nrQ p L c/\kle L e.2.1 c:=λc h=>by
  rcases h with h|h|h
  ·rw[e] at h;cases h
  ·cases h
  ·exact h
 refine⟨F.le,λe he=> ?_,by have:=W.ok.nd;rw[W.ok.kn] at this;exact this,W.srt,λe he k hk hle=>cv _<|W.cl e he k hk hle,λh=>cv _<|W.st h⟩;obtain⟨h1,h2,h3,h4,h5⟩:=W.fd e he;refine⟨h2,h3,h4,h5, ?_⟩;have:=aCs (pr:=prK L) e.2.1 λk hk=>hpr k<|h2 k hk
 have:=F.b3;omega
theorem BkFOk.all{B:List (Int×List Nat×List Nat)}(hpr:∀k,k<L.length->1<=prK L k)(O:BkFOk p L b B):∀row,fY L row->S45.prQ (prK L) row<=b->∃e∈B,e.2.2=nrQ p L row/\kle L e.2.1 row:=by
 have g:∀ (n:Nat) (row:List Nat),row.length=n->fY L row->S45.prQ (prK L) row<=b->∃e∈B,e.2.2=nrQ p L row/\kle L e.2.1 row:=λn=>by
  induction n with
  |zero=>intro row hl _ hb;have:row=[]:=cQ hl;subst this;exact O.st hb
  |succ n ih=>
   intro row hl ho hb;have hne:row≠[]:=λz=>by rw[z] at hl;cases hl
   have ed:=fP hne;generalize row.dropLast=q at ed;generalize row.getLast hne=k at ed;subst ed;have kn:k<L.length:=ho k (by simp);have h1:=hpr k kn;rw[S45.pr_snoc] at hb;obtain⟨e,he,e1,e2⟩:=ih q (by simpa using hl) (λi hi=>ho i<|aZ _ hi) (by omega);obtain⟨_,h3,_,h5,_⟩:=O.ent e he
   have le:S45.prQ (prK L) e.2.1<=S45.prQ (prK L) q:=by
    rcases e2 with z|(z|⟨z,_⟩)
    ·rw[z];exact mL _
    ·have:(rkR L e.2.1).1<=(rkR L q).1:=by unfold rlt at z;omega
     exact this
    ·exact aOY<|congrArg Prod.fst z
   obtain⟨e',he',e3,e4⟩:=O.cl e he k kn (by omega);refine⟨e',he', ?_,aHJ e4<|aFW k e2⟩;rw[e3,uD,uD,<-h5,e1]
 exact λrow=>g row.length row rfl
noncomputable def fdD(e:Int×List Nat×List Nat):D:=.tup [.int e.1,.tup<|cD e.2.1,.tup<|cD e.2.2]
def aGR:List D->R->Prop:=λds r=>∃p L b,p∈bO/\StkOk p L/\Fit p L b/\ds=[.lst (L.map<|mvD p),.int b,.tup (cD<|st0 p)]/\r=.own ((bkF p L b).map fdD)
noncomputable def yO(ds:List D):List Nat:=ds.map λd=>match d with | .int i=>i.toNat|_=>0
theorem aCX(l:List Nat):yO (cD l)=l:=by unfold yO cD;rw[bB];exact(bW λi _=>dX i).trans<|kR l
noncomputable def unE:D->Int×List Nat×List Nat
 |.tup [.int a,.tup r,.tup n]=>(a,yO r,yO n)
 |_=>(0,[],[])
theorem aIg(e:Int×List Nat×List Nat):unE (fdD e)=e:=by show(e.1,yO<|cD e.2.1,yO<|cD e.2.2)=e;rw[aCX,aCX]
noncomputable def bkQ(p:Int×Int)(L:List SK)(b:Int):List Bk:=(bkF p L b).map λe=>(e.1,e.2.1,iH p e.2.2)
def aLd:List D->R->Prop:=λds r=>∃p L b,p∈bO/\StkOk p L/\(L.map λs=>sqD s.1).Nodup/\Fit p L b/\ds=[cK p,.lst<|L.map skD,.int b]/\r=.own ((bkQ p L b).map enD)
section
open PySem.W PySem.Calls Att
end
section
open PySem.SeqAt
open PySem.AutoSeq1 (wpAny_loadPart')
open PySem.MeetsSeq PySem.MeetsSeq2 PySem.MeetsSeq3
end
structure BqOk(p:Int×Int)(L:List SK)(b:Int)(B:List Bk):Prop where
 len:B.length<=500
 ent:∀e∈B,fY L e.2.1/\e.1=S45.prQ (prK L) e.2.1/\e.1<=b/\e.2.2=S45.tabQ (fQ p L) (bQ p) e.2.1/\e.2.1.length<=300
 nd:(B.map λe=>e.2.2).Nodup
 srt:(B.map λe=>e.2.1).Pairwise (klt L)
 cl:∀e∈B,∀k,k<L.length->e.1+prK L k<=b->∃e'∈B,e'.2.2=fQ p L k e.2.2/\kle L e'.2.1 (e.2.1++[k])
 st:0<=b->∃e∈B,e.2.2=bQ p/\kle L e.2.1 []
 all:∀row,fY L row->S45.prQ (prK L) row<=b->∃e∈B,e.2.2=S45.tabQ (fQ p L) (bQ p) row/\kle L e.2.1 row
theorem aGZ(hp:p∈bO)(S:StkOk p L)(F:Fit p L b):BqOk p L b (bkQ p L b):=by
 have O:=aCI (p:=p) S.pr F;have nr:∀ {row:List Nat},fY L row->NOk p (nrQ p L row)/\iH p (nrQ p L row)=S45.tabQ (fQ p L) (bQ p) row:=λh=>rD hp (λs hs=>(S.st s hs).1) h
 have mem:∀ {e:Int×List Nat×List Nat},e∈bkF p L b->(e.1,e.2.1,iH p e.2.2)∈bkQ p L b:=λh=>aQ.mpr ⟨_,h,rfl⟩
 refine⟨by unfold bkQ;rw[aA];exact O.len,λx hx=> ?_, ?_, ?_,λx hx k hk hle=> ?_,λh=> ?_,λrow ho hr=> ?_⟩
 ·obtain⟨e,he,rfl⟩:=aQ.mp hx;obtain⟨h1,h2,h3,h4,h5⟩:=O.ent e he;exact⟨h1,h2,h3,by show iH p e.2.2=_;rw[h4];exact(nr h1).2,h5⟩
 ·unfold bkQ;rw[bB];have:(bkF p L b).map ((λe:Bk=>e.2.2) ∘ λe=>(e.1,e.2.1,iH p e.2.2))=((bkF p L b).map λe=>e.2.2).map (iH p):=by rw[bB];rfl
  rw[this];have q:=O.nd;unfold List.Nodup at q ⊢;rw[jT];refine List.Pairwise.imp_of_mem (λ{a c} ha hc h z=>h ?_) q;obtain⟨e,he,rfl⟩:=aQ.mp ha;obtain⟨e',he',rfl⟩:=aQ.mp hc;have n1:=(nr (O.ent e he).1).1;have n2:=(nr (O.ent e' he').1).1;rw[<-(O.ent e he).2.2.2.1] at n1;rw[<-(O.ent e' he').2.2.2.1] at n2;exact vG hp n1 n2 z
 ·unfold bkQ;rw[bB];exact O.srt
 ·obtain⟨e,he,rfl⟩:=aQ.mp hx;obtain⟨e',he',h1,h2⟩:=O.cl e he k hk hle;obtain⟨o1,_,_,o4,_⟩:=O.ent e he;refine⟨_,mem he', ?_,h2⟩
  have ho:fY L (e.2.1++[k]):=λi hi=>by
   rcases aM.mp hi with hi|hi
   ·exact o1 i hi
   ·rw[aE.mp hi];exact hk
  show iH p e'.2.2=fQ p L k (iH p e.2.2);rw[h1,(nr ho).2,S45.tab_snoc,o4,(nr o1).2]
 ·obtain⟨e,he,h1,h2⟩:=O.st h;refine⟨_,mem he, ?_,h2⟩;show iH p e.2.2=bQ p;rw[h1];exact aDc p
 ·obtain⟨e,he,h1,h2⟩:=O.all S.pr row ho hr;refine⟨_,mem he, ?_,h2⟩;show iH p e.2.2=_;rw[h1];exact(nr ho).2
section
variable {T:Type}[DecidableEq T]{n:Nat}{pr:Nat->Int}{beh:Nat->T->T}{t0:T}
theorem aAI{t:Int}{x:S45.Ent T}:∀ (rest:List (List Nat×T)) (s:List (S45.Ent T)×S45.Lay T),x∈s.1->x∈(rest.foldl (S45.one n pr beh t) s).1
 |[],_,h=>h
 | e::rest,s,h=>aAI rest _ (by
  unfold S45.one
  split
  ·exact aZ _ h
  ·exact h)
theorem aHl:∀t:Nat,∃c,(c,[],t0)∈(S45.run n pr beh t0<|t+1).1
 | 0=>⟨_,by
  show _∈(S45.one n pr beh ((0:Nat):Int) ([],S45.lay0 t0) ([],t0)).1;unfold S45.one;rw[if_pos ⟨by simp,bP _⟩]
  exact bL _⟩
 |t+1=>by obtain⟨c,h⟩:=aHl t;exact⟨c,aAI _ _ h⟩
end
theorem aLq{β:Type}[DecidableEq β]{f:α->β}{A:List α}{C:List β}(h:(A.map f).Nodup)(s:∀a∈A,f a∈C):A.length<=C.length:=by
 have:=h.length_le_of_subset (l₂:=C) λx hx=>by obtain⟨a,ha,rfl⟩:=aQ.mp hx;exact s a ha
 rwa[aA] at this
theorem aHx(hp:p∈bO)(S:StkOk p L){b:Nat}(b3:b<=300):((iC p L<|b+1).1.length<=500->Fit p L b/\(bkQ p L b).length=(iC p L<|b+1).1.length)/\(500<(iC p L<|b+1).1.length->500<(bkF p L b).length):=by
 have hpr:=S.pr;have l8:=S.le;have nr:∀ {row:List Nat},fY L row->NOk p (nrQ p L row)/\iH p (nrQ p L row)=S45.tabQ (fQ p L) (bQ p) row:=λh=>rD hp (λs hs=>(S.st s hs).1) h
 have o:S45.Ok L.length (prK L) (fQ p L) (bQ p) (b:Int) [] (iC p L<|b+1):=S45.ok_end hpr b;obtain⟨c0,st⟩:∃c,(c,[],bQ p)∈(iC p L<|b+1).1:=aHl b;generalize (iC p L<|b+1)=s at o st;obtain⟨dn,r,W,_⟩:=wF (p:=p) (b:=(b:Int)) (M:=500) hpr 4002 (wk0 p L b) (by simp;omega)
 have ndB:((bkF p L b).map λe=>e.2.2).Nodup:=by have:=W.ok.nd;rw[W.ok.kn] at this;exact this
 have inB:∀e∈bkF p L b,fY L e.2.1/\S45.prQ (prK L) e.2.1<=b/\e.2.2=nrQ p L e.2.1:=λe he=>by obtain⟨h1,h2,h3,h4,h5⟩:=W.fd e he;exact⟨h2,by omega,h5⟩
 have rev:Fit p L b->s.1.length<=(bkF p L b).length:=λF=>by
  have O:=aCI (p:=p) hpr F
  have:=aLq (f:=λe:Bk=>e.2.2) (C:=(bkF p L b).map λe=>iH p e.2.2) o.nd λx hx=>by obtain⟨h1,h2,h3,h4,h5⟩:=o.ent x hx;obtain⟨e,he,e1,_⟩:=O.all hpr x.2.1 h4 (by omega);exact aQ.mpr ⟨e,he,by rw[e1,(nr h4).2,h5]⟩
  rwa[aA] at this
 refine⟨λh=> ?_,λh=> ?_⟩
 ·have hold:S45.HoldsP L.length (prK L) (fQ p L) (b:Int) s.1:=S45.holds_all hpr o (mL _) (tF b) (λz=>by rw[z] at st;cases st) (cG (pH _ _) h) λx=>⟨λhx=>⟨hx,(o.ent x hx).2.1⟩,λhx=>hx.1⟩
  have all:∀ (m:Nat) (row:List Nat),row.length=m->fY L row->S45.prQ (prK L) row<=b->∃e∈s.1,e.2.2=S45.tabQ (fQ p L) (bQ p) row/\e.1<=S45.prQ (prK L) row:=λm=>by
   induction m with
   |zero=>intro row hl _ _;have:row=[]:=cQ hl;subst this;have:=(o.ent _ st).2.2.1;exact⟨_,st,rfl,aOY this⟩
   |succ m ih=>intro row hl ho hb;obtain⟨q,k,rfl⟩:∃q k,row=q++[k]:=⟨row.dropLast,row.getLast (λz=>by rw[z] at hl;cases hl),(fP _).symm⟩;have kn:k<L.length:=ho k (by simp);have h1:=hpr k kn;rw[S45.pr_snoc] at hb;obtain⟨e,he,e1,e2⟩:=ih q (by simpa using hl) (λi hi=>ho i<|aZ _ hi) (by omega);obtain⟨e',he',g1,g2⟩:=hold.2 e he k kn (by omega);refine⟨e',he',by rw[g1,e1,S45.tab_snoc], ?_⟩;rw[S45.pr_snoc];omega
  have le:(bkF p L b).length<=s.1.length:=by
   have nd2:((bkF p L b).map λe=>iH p e.2.2).Nodup:=by unfold List.Nodup at ndB ⊢;rw[jT] at ndB ⊢;refine List.Pairwise.imp_of_mem (λ{a c} ha hc h z=>h ?_) ndB;obtain⟨a1,_,a3⟩:=inB a ha;obtain⟨c1,_,c3⟩:=inB c hc;rw[a3,c3] at z ⊢;exact vG hp (nr a1).1 (nr c1).1 z
   have:=aLq (C:=s.1.map λe=>e.2.2) nd2 λe he=>by obtain⟨h1,h2,h3⟩:=inB e he;obtain⟨x,hx,x1,_⟩:=all _ e.2.1 rfl h1 h2;exact aQ.mpr ⟨x,hx,by rw[x1,h3,(nr h1).2]⟩
   rwa[aA] at this
  have F:Fit p L b:=⟨l8,by omega,cG le h⟩;exact⟨F,by unfold bkQ;rw[aA];exact Nat.le_antisymm le<|rev F⟩
 ·refine nV λz=> ?_
  have:=rev ⟨l8,by omega,z⟩;omega
def FI(K:aB)(mg:Str->Option BE)(n:Str)(st:BK):Prop:=∃f fd,mg n=some (.ref f)/\Fun K n n st f fd
theorem FI.mk{h:BI}{mg:Str->Option BE}{n:Str}{st:BK}{od an:Option BG}{sl:Array (Option BE)}{oc kV dc pm cd ct:BE}{f:BG}(X:K.In h)(G:h.Ns AR mg)(a:fU K AR n=some (some<|.ref f))(l:K.lookup f=some ⟨oc,od,.func<|dU n n (iA st) (eO st) (bD st) .none kV dc pm an cd ct,sl⟩)(c:jN K cd n=true)(k:fG K (.ref f)=true):FI K mg n st:=⟨f,_,fW X G a,aGI (st:=st) l c k⟩
structure aNf(K:aB)(mg:Str->Option BE)(CN:BG):Prop where
 xc:aHR K CN
 ex:lS K CN aNy "ValueError.__new__"=true
 le:∃C:BG,mg "LeastError"=some (.ref C)/\bR K (.ref CN) (.ref C)=some true
 nw:mg "TooGreat"=some (.ref CN)/\xD K (.ref CN) (.ref CN)=some true
 ve:mg "ValueError"=none/\bR K (.ref CN) (.type "ValueError")=some true
 nc:∃C:BG,mg "NoChange"=some (.ref C)/\bR K (.ref CN) (.ref C)=some false
 nt:∃C:BG,mg "NoText"=some (.ref C)/\bR K (.ref CN) (.ref C)=some false
 nd:∃C:BG,mg "NoWindow"=some (.ref C)/\bR K (.ref CN) (.ref C)=some false
 ns:∃C:BG,mg "NoWish"=some (.ref C)/\bR K (.ref CN) (.ref C)=some false
def Gr(p:Int×Int)(L:List SK)(b:Int):Prop:=b<=300/\500<(bkF p L b).length
def aGM:List D->Prop:=λds=>∃p L b,p∈bO/\StkOk p L/\Gr p L b/\ds=[.lst (L.map<|mvD p),.int b,.tup (cD<|st0 p)]
def aDb:List D->Prop:=λds=>∃p L b,p∈bO/\StkOk p L/\(L.map λs=>sqD s.1).Nodup/\Gr p L b/\ds=[cK p,.lst<|L.map skD,.int b]
noncomputable def cnD(p:Int×Int)(L:List SK)(t:Nat):List D:=(bM t).map λj=>.int ((iC p L<|j+1).1.length:Int)
def aGP:List D->R->Prop:=λds r=>∃p L,p∈bO/\StkOk p L/\ds=[cK p,.lst<|L.map skD,.int 500]/\r=.own (cnD p L 41)
noncomputable def tlD(x:List Nat×List (List Int)):D:=.tup<|x.2.map bJ
noncomputable def lyT(s:aOC):Int->List D:=λj=>(s.2 j).map tlD
noncomputable def prG(d:Bool)(x:Int):Int:=if d then 9 else 1+mxS x 5%2
noncomputable def gkN(p:Int×Int)(ns:List Int)(d:Bool):Nat->List SK
 |0=>[]
 |t+1=>if wM (gkN p ns d t) (drQ p<|ns.getD (2+t) 0+(t:Int)) then gkN p ns d t else gkN p ns d t++[(drQ p<|ns.getD (2+t) 0+(t:Int),prG d<|ns.getD (2+t) 0+(t:Int))]
noncomputable def gkP(ns:List Int):Int×Int:=if mxS (ns.getD 0 0) 1%4=1 then(3,1) else(1,3)
theorem aMz(ns:List Int):gkP ns∈bO:=by
 unfold gkP
 split<;>decide
theorem aMO(d:Bool)(x:Int):1<=prG d x/\prG d x<=9:=by
 unfold prG
 split<;>omega
theorem aCw{p:Int×Int}(hp:p∈bO)(ns:List Int)(d:Bool):∀t,(gkN p ns d t).length<=t/\(0<t->0<(gkN p ns d t).length)/\(∀s∈gkN p ns d t,pZ p s.1/\1<=s.2/\s.2<=9)/\((gkN p ns d t).map λs=>sqD s.1).Nodup
 |0=>⟨aP _,λh=>by omega,λs hs=>(nomatch hs),cZ⟩
 |t+1=>by
  obtain⟨a,b,c,g⟩:=aCw hp ns d t;have e:gkN p ns d (t+1)=if wM (gkN p ns d t) (drQ p<|ns.getD (2+t) 0+(t:Int)) then gkN p ns d t else gkN p ns d t++[(drQ p<|ns.getD (2+t) 0+(t:Int),prG d<|ns.getD (2+t) 0+(t:Int))]:=rfl
  rw[e];clear e;generalize gkN p ns d t=L at a b c g;generalize ns.getD (2+t) 0+(t:Int)=x;cases h:wM L (drQ p x) with
  |true=>
   rw[if_pos rfl];refine⟨by omega,λ_=> ?_,c,g⟩;cases L with
   |nil=>cases h
   |cons _ _=>simp
  |false=>
   rw[if_neg bF];refine⟨by rw[aN];simp;omega,λ_=>by rw[aN];simp,λs hs=> ?_, ?_⟩
   ·rcases aM.mp hs with hs|hs
    ·exact c s hs
    ·rw[aE.mp hs];exact⟨aME hp _,aMO d x⟩
   ·rw[aW];refine bE.mpr ⟨g,by simp,λy hy z hz q=>aIq h ?_⟩;have:z=sqD (drQ p x):=by simpa using hz
    rw[<-this,<-q];exact hy
noncomputable def fwQ(p:Int×Int)(L:List SK):List Nat:=(bM 41).filter λt=>decide<|(iC p L<|t+1).1.length<=500
theorem aOk(p:Int×Int)(L:List SK):∃ (b:Nat) (q:List Nat),fwQ p L=q++[b]/\b<=40/\(iC p L<|b+1).1.length<=500/\∀t,b<t->t<=40->500<(iC p L<|t+1).1.length:=by
 have h0:0∈fwQ p L:=gK.mpr ⟨by decide,decide_eq_true (by
  show(S45.one L.length (prK L) (fQ p L) ((0:Nat):Int) ([],S45.lay0<|bQ p) ([],bQ p)).1.length<=500;unfold S45.one
  split
  ·show 1<=500;decide
  ·exact bP _)⟩
 have hne:fwQ p L≠[]:=λz=>by rw[z] at h0;cases h0
 have e:=(fP hne).symm;have hm:=aKg hne;generalize (fwQ p L).getLast hne=b at e hm;generalize (fwQ p L).dropLast=q at e;obtain⟨h1,h2⟩:=gK.mp hm;refine⟨b,q,e,by have:=cE.mp h1;omega,of_decide_eq_true h2,λt ht h4=>nV λz=> ?_⟩;have srt:(fwQ p L).Pairwise (·<·):=List.pairwise_lt_range.filter _;have tm:t∈fwQ p L:=gK.mpr ⟨cE.mpr<|by omega,decide_eq_true z⟩;rw[e] at srt tm
 rcases aM.mp tm with tm|tm
 ·have:=(iU.mp srt).2.2 t tm b<|bL b;omega
 ·have:=aE.mp tm;omega
theorem aIw(hp:p∈bO)(S:StkOk p L)(h:fY L row):(S45.tabQ (fQ p L) (bQ p) row).length=(bQ p).length:=by obtain⟨q1,q2⟩:=rD hp (λs hs=>(S.st s hs).1) h;rw[<-q2];unfold iH;rw[aA];exact q1.1
theorem aGN(hpr:∀k,k<L.length->1<=prK L k)(h:fY L row):0<=S45.prQ (prK L) row:=by
 have:=S45.len_pr (pr:=prK L) row λk hk=>hpr k<|h k hk
 omega
theorem aJl(hpr:∀k,k<L.length->1<=prK L k){a:List Nat}(ho:fY L a)(h:kle L a []):a=[]:=by
 rcases h with h|(h|⟨_,h⟩)
 ·exact h
 ·have h1:=aGN hpr ho;unfold rlt rkR at h;have e:S45.prQ (prK L) ([]:List Nat)=0:=rfl;simp only[e] at h;have:(([]:List Nat).length:Int)=0:=rfl;omega
 ·cases a with
  |nil=>rfl
  |cons x a=>cases h
theorem aNW(e:Bk):pl (enD e)=true:=by show(true&&(plL (cD e.2.1)&&(plL (e.2.2.map bJ)&&true)))=true;rw[(oJ e.2.1).1,rQ];rfl
theorem aMi(e:Bk):dep (enD e)<=3:=by show max 0 (max (iQ (cD e.2.1)+1)<|max (iQ (e.2.2.map bJ)+1) 0)+1<=3;have:=oZ e.2.2;rw[(oJ e.2.1).2];omega
theorem aGH(B:List Bk):plL (B.map enD)=true/\iQ (B.map enD)<=3:=⟨vU enD aNW B,sR enD 3 aMi B⟩
open PySem.W (KasT kas_sort)
structure ChN(A c:List (List Int)):Prop where
 ne:c≠[]
 nd:c.Nodup
 sub:∀f∈c,f∈A
theorem ChN.le{A c:List (List Int)}(h:ChN A c):c.length<=A.length:=h.nd.length_le_of_subset h.sub
structure WN(A:List (List Int))(W:List (Option (List<|List Int))):Prop where
 len:W.length=A.length
 ok:∀o∈W,∀c,o=some c->ChN A c
theorem WN.wish(hp:p∈bO){W:List (Option (List<|List Int))}(h:WN (bQ p) W):mR p W:=by refine⟨h.len,λo ho L hL=> ?_⟩;have k:=h.ok o ho L hL;have f9:(bQ p).length<=64:=jB hp;have:=k.le;exact⟨gW.mpr k.ne,by omega,λws hw=>rS hp<|k.sub ws hw⟩
theorem miss_iff{w:List (Option (List<|List Int))}{A T:List (List Int)}:(rB w A T).isNone=true↔∀j,j<A.length->aKr w T j=false:=by unfold rB;exact aEU
noncomputable def doQ(p:Int×Int)(w:List (Option (List<|List Int)))(T:List (List Int)):Bool:=(rB w (bQ p) T).isNone
noncomputable def ftQ(p:Int×Int)(w:List (Option (List<|List Int)))(B:List Bk):Option Bk:=B.find? λe=>doQ p w e.2.2
noncomputable def oeD:Option Bk->D
 |none=>.non
 |some e=>enD e
noncomputable def lrD(p:Int×Int)(w:List (Option (List<|List Int)))(B:List Bk):D:=match ftQ p w B with
 |none=>.tup [.str "none",.lst<|B.map enD]
 |some e=>.tup [.str "row",.tup<|cD e.2.1,.lst<|(B.filter λx=>decide<|x.1<e.1).map enD]
theorem aJH(hp:p∈bO)(S:StkOk p L)(h:fY L row):aFm p (S45.tabQ (fQ p L) (bQ p) row):=⟨aIw hp S h,λws hw=>rS hp<|aBq hp S h ws hw⟩
theorem aIM(O:BqOk p L b B){w:List (Option (List<|List Int))}{e:Bk}(h:ftQ p w B=some e):e∈B/\doQ p w e.2.2=true/\∀row,fY L row->S45.prQ (prK L) row<=b->doQ p w (S45.tabQ (fQ p L) (bQ p) row)=true->kle L e.2.1 row:=by
 obtain⟨h1,as,bs,e1,h2⟩:=List.find?_eq_some_iff_append.mp h;refine⟨by rw[e1];simp,h1,λrow ho hr hd=> ?_⟩;obtain⟨x,hx,x1,x2⟩:=O.all row ho hr;refine aHJ ?_ x2;rw[e1] at hx
 rcases aM.mp hx with hx|hx
 ·have:=h2 x hx;rw[x1] at this;simp[hd] at this
 ·rcases aU.mp hx with rfl|hx
  ·exact .inl rfl
  ·have:=O.srt;rw[e1,aW,bA] at this;have:=(jJ.mp (iU.mp this).2.1).1;exact .inr (this x.2.1<|aQ.mpr ⟨x,hx,rfl⟩)
theorem aIo(O:BqOk p L b B){w:List (Option (List<|List Int))}(h:ftQ p w B=none):∀row,fY L row->S45.prQ (prK L) row<=b->doQ p w (S45.tabQ (fQ p L) (bQ p) row)=false:=λrow ho hr=>by obtain⟨x,hx,x1,x2⟩:=O.all row ho hr;have:=sE.mp h x hx;rw[x1] at this;simpa using this
def aIa:List D->R->Prop:=λds r=>∃p L b B w,p∈bO/\StkOk p L/\BkOk p L b B/\mR p w/\ds=[cK p,.lst<|B.map enD,.lst<|w.map wsD]/\r=.val (oeD<|ftQ p w B)
def aLs:List D->R->Prop:=λds r=>∃p L b B w,p∈bO/\StkOk p L/\(L.map λs=>sqD s.1).Nodup/\BkOk p L b B/\0<=b/\mR p w/\ds=[cK p,.lst<|L.map skD,.int b,.lst<|w.map wsD,.lst<|B.map enD]/\r=.val (.bl<|wD p L b B&&(ftQ p w B).isNone)
def aHY:List D->R->Prop:=λds r=>∃p L b w,p∈bO/\StkOk p L/\(L.map λs=>sqD s.1).Nodup/\Fit p L b/\mR p w/\ds=[cK p,.lst<|L.map skD,.int b,.lst<|w.map wsD]/\r=.val (lrD p w<|bkQ p L b)
def aIl:List D->Prop:=λds=>∃p L b w,p∈bO/\StkOk p L/\(L.map λs=>sqD s.1).Nodup/\Gr p L b/\mR p w/\ds=[cK p,.lst<|L.map skD,.int b,.lst<|w.map wsD]
def aHy:List D->R->Prop:=λds r=>∃p L b w,p∈bO/\StkOk p L/\(L.map λs=>sqD s.1).Nodup/\Gr p L b/\mR p w/\ds=[cK p,.lst<|L.map skD,.int b,.lst<|w.map wsD]/\r=.val (.bl true)
theorem aMx(o:Option Bk):isN (oeD o)=o.isNone:=by cases o<;>rfl
theorem BqOk.bk(O:BqOk p L b B):BkOk p L b B:=⟨by have:=O.len; omega,fun e he=>by
 obtain⟨h1,h2,h3,h4,h5⟩:=O.ent e he
 exact⟨h2,h3,h1,by omega,h4⟩,O.nd⟩
noncomputable def w55(p:Int×Int)(k:Nat)(f:List Int):Option (List<|List Int):=if k=0 then none else if k=1 then some [f] else some [(bQ p).getD 0 []]
noncomputable def tS(p:Int×Int)(k:Nat):List (Option (List<|List Int)):=(bQ p).map<|w55 p k
theorem aJo(hp:p∈bO)(k:Nat):mR p (tS p k):=by
 refine WN.wish hp ⟨by unfold tS;rw[aA],λo ho c hc=> ?_⟩;obtain⟨f,hf,rfl⟩:=aQ.mp ho;unfold w55 at hc;have l0:0<(bQ p).length:=List.length_pos_of_mem hf
 split at hc
 ·cases hc
 ·split at hc<;>obtain rfl:=bS.inj hc
  ·exact⟨by simp,by simp,λy hy=>by rw[aE.mp hy];exact hf⟩
  ·exact⟨by simp,by simp,λy hy=>by rw[aE.mp hy];exact getD_mem l0⟩
theorem aJO{k:Nat}(h:k<2):doQ p (tS p k) (bQ p)=true:=miss_iff.mpr λj hj=>by
 unfold aKr tS;have:((bQ p).map<|w55 p k).getD j none=w55 p k ((bQ p).getD j []):=by simp[cB,hj]
 rw[this];unfold w55;have:k=0\/k=1:=by omega
 rcases this with rfl|rfl<;>simp
theorem lr55(O:BqOk p L b B)(hpr:∀k,k<L.length->1<=prK L k)(hb:0<=b){k:Nat}(h:k<2):lrD p (tS p k) B=.tup [.str "row",.tup [],.lst []]:=by
 have n0:fY L []:=λi hi=>(nomatch hi)
 have d:doQ p (tS p k) (S45.tabQ (fQ p L) (bQ p) [])=true:=aJO h;unfold lrD;cases q:ftQ p (tS p k) B with
 |none=>have:=aIo O q [] n0 hb;rw[d] at this;cases this
 |some e=>
  obtain⟨he,_,g⟩:=aIM O q;obtain⟨h1,h2,_⟩:=O.ent e he;have e0:e.2.1=[]:=aJl hpr h1<|g [] n0 hb d;have p0:e.1=0:=by rw[h2,e0];rfl
  have f0:B.filter (λx=>decide<|x.1<e.1)=[]:=List.filter_eq_nil_iff.mpr λx hx z=>by obtain⟨x1,x2,_⟩:=O.ent x hx;have:=aGN hpr x1;have:=of_decide_eq_true z;omega
  show D.tup [.str "row",.tup<|cD e.2.1,.lst<|(B.filter λx=>decide<|x.1<e.1).map enD]=_;rw[f0,e0];rfl
theorem aNV(w:List (Option (List<|List Int)))(B:List Bk):∃ds,lrD p w B=.tup ds/\pl (.tup ds)=true/\dep (.tup ds)<=5/\((∃e,ftQ p w B=some e/\ds=[.str "row",.tup<|cD e.2.1,.lst<|(B.filter λx=>decide<|x.1<e.1).map enD])\/ds=[.str "none",.lst<|B.map enD]):=by
 have pn:∀r:List Nat,plL (cD r)=true/\iQ (cD r)<=0:=λr=>⟨vU _ (λ_=>rfl) r,sR _ 0 (λ_=>aP _) r⟩
 unfold lrD;cases ftQ p w B with
 |none=>
  obtain⟨h1,h2⟩:=aGH B;refine⟨_,rfl, ?_, ?_,.inr rfl⟩
  ·show(true&&(plL (B.map enD)&&true))=true;rw[h1];rfl
  ·show max 0 (max (iQ (B.map enD)+1) 0)+1<=5;omega
 |some e=>
  obtain⟨h1,h2⟩:=aGH (B.filter λx=>decide<|x.1<e.1);obtain⟨h3,h4⟩:=pn e.2.1;refine⟨_,rfl, ?_, ?_,.inl ⟨e,rfl,rfl⟩⟩
  ·show(true&&(plL (cD e.2.1)&&(plL ((B.filter λx=>decide<|x.1<e.1).map enD)&&true)))=true;rw[h1,h3];rfl
  ·show max 0 (max (iQ (cD e.2.1)+1)<|max (iQ ((B.filter λx=>decide<|x.1<e.1).map enD)+1) 0)+1<=5;omega
theorem st55(hp:p∈bO)(S:StkOk p L)(h:500<(iC p L 41).1.length):wD p L 40 [((0:Int),[],bQ p)]=false:=by
 have t:=aJe hp S (m:=1) (by omega:1<_);have o:S45.Ok L.length (prK L) (fQ p L) (bQ p) 40 [] (iC p L 41):=S45.ok_end S.pr 40;cases q:(iC p L 41).1 with
 |nil=>rw[q] at h;cases h
 |cons f fs=>
  have f0:(iC p L 41).1[0]? =some f:=by rw[q];rfl
  have e0:f.2.1=[]:=by
   rcases o.par 0 f f0 with⟨g,_⟩|⟨_,_,i,_,g,_⟩
   ·exact g
   ·omega
  obtain⟨_,_,e1,_,e2⟩:=o.ent f<|aK f0
  have e:f=((0:Int),[],bQ p):=by obtain⟨a,r,c⟩:=f;obtain rfl:r=[]:=e0;have e1:a=0:=e1;have e2:c=bQ p:=e2;rw[e1,e2]
  rw[q,e] at t;exact t
theorem aJr(p:Int × Int)(L:List SK):BkOk p L 40 [((0:Int),[],bQ p)]:=⟨by simp,fun e he=>by
 rw[aE.mp he]
 exact⟨rfl,(by decide:(0:Int)<=40),λi hi=>(nomatch hi),bP _,rfl⟩,by simp⟩
noncomputable def aKm(ns:List Int):Nat:=5+(mxS (ns.getD 1 0) 7%2).toNat
noncomputable def aKl(p:Int×Int)(ns:List Int):List SK:=gkN p ns (decide<|mxS (ns.getD 1 0) 6%5=1)<|aKm ns
theorem aKc(hp:p∈bO)(ns:List Int):StkOk p (aKl p ns)/\((aKl p ns).map λs=>sqD s.1).Nodup:=by have m:aKm ns=5+(mxS (ns.getD 1 0) 7%2).toNat:=rfl;obtain⟨a,b,c,d⟩:=aCw hp ns (decide<|mxS (ns.getD 1 0) 6%5=1)<|aKm ns;exact⟨⟨b<|by omega,cG a<|by omega,c⟩,d⟩
def aKZ:List D->R->Prop:=λds r=>∃p ns,p∈bO/\ds=[.scr ns,cK p]/\r=.own ((aKl p ns).map skD)
theorem aKF{us:List α}(h:us.length=n+1):∃a r,us=a::r/\r.length=n:=by
 cases us with
 |nil=>cases h
 |cons a r=>exact⟨a,r,rfl,aHN.inj h⟩
theorem aNq{us:List α}(h:us.length=1):∃a,us=[a]:=by obtain⟨a,r,rfl,h2⟩:=aKF h;exact⟨a,by rw[cQ h2]⟩
theorem aNp{us:List α}(h:us.length=2):∃a b,us=[a,b]:=by obtain⟨a,r,rfl,h2⟩:=aKF h;obtain⟨b,rfl⟩:=aNq h2;exact⟨a,b,rfl⟩
theorem aNE{us:List α}(h:us.length=3):∃a b c,us=[a,b,c]:=by obtain⟨a,r,rfl,h2⟩:=aKF h;obtain⟨b,c,rfl⟩:=aNp h2;exact⟨a,b,c,rfl⟩
theorem aNB{us:List α}(h:us.length=4):∃a b c d,us=[a,b,c,d]:=by obtain⟨a,r,rfl,h2⟩:=aKF h;obtain⟨b,c,d,rfl⟩:=aNE h2;exact⟨a,b,c,d,rfl⟩
theorem aOJ{us:List α}(h:us.length=5):∃a b c d e,us=[a,b,c,d,e]:=by obtain⟨a,r,rfl,h2⟩:=aKF h;obtain⟨b,c,d,e,rfl⟩:=aNB h2;exact⟨a,b,c,d,e,rfl⟩
variable {p:Pos}{d:D}
theorem pdv(i:Nat)(hs:sd[i]? =some (.val d):=by rfl)(h:PE X (.Name x pos) (jO i):=by exact pv _):PEd X sd (.Name x pos) (.val d):=kJ i hs h
theorem iG(i:Nat)(h:PEd X sd e (.val d))(hE:E.nx (sd.set i<|.val d))(hN:X.N.Nodup:=by assumption)(hi:X.N[i]? =some x:=by rfl)(hx:Loc X.env.scope x:=by first|exact Or.inl rfl|exact Or.inr rfl)(hs:AX e (some<|.Name x p) pos.line X.env=pure false:=by rfl)
  (hf:X.fn x=true\/X.env.scope.names.lookup x=some .local:=by first|exact .inl rfl|exact .inr rfl|assumption):PSd1 X sd (.Assign [.Name x p] e pos) E:=jA i hN hi hx h hE hs hf
theorem pK(i:Nat)(h:PEd X sd e (.own ds))(hE:∀l,E.nx (sd.set i<|.own l ds))(hN:X.N.Nodup:=by assumption)(hi:X.N[i]? =some x:=by rfl)(hx:Loc X.env.scope x:=by first|exact Or.inl rfl|exact Or.inr rfl)(hs:AX e (some<|.Name x p) pos.line X.env=pure false:=by rfl)
  (hf:X.fn x=true\/X.env.scope.names.lookup x=some .local:=by first|exact .inl rfl|exact .inr rfl|assumption):PSd1 X sd (.Assign [.Name x p] e pos) E:=rX i hN hi hx h hE hs hf
theorem pgn(i:Nat)(hN:X.N.Nodup:=by assumption)(hi:X.N[i]? =some x:=by rfl)(hx:Loc X.env.scope x:=by first|exact Or.inl rfl|exact Or.inr rfl)(hf:X.fn x=true\/X.env.scope.names.lookup x=some .local:=by first|exact .inl rfl|exact .inr rfl|assumption):PG X (.Name x pos) (aCj i):=aDt hN hi hx hf
noncomputable abbrev tN(l:List Nat):D:=.tup<|cD l
noncomputable abbrev lK(L:List SK):D:=.lst<|L.map skD
noncomputable abbrev tL(l:List (List Int)):D:=.lst<|l.map bJ
noncomputable abbrev rtE(r:R):iJ:={nx:=λ_=>r=.val .non,rt:=λr'=>r'=r}
theorem uN{k:Nat}(r:Room k A)(n:Nat)(h:n<=8:=by decide):A.units+n<AO:=by have:=r.un;omega
noncomputable def NB:R->Prop
 |.bor _=>False
 |_=>True
variable {es:List Expr}{r:R}{rest:List BK}
theorem kF(h:PEd X sd e r)(hE:E.rt r:=by rfl)(hr:NB r:=by trivial):PSd1 X sd (.Return (some e) pos) E:=cY h (by cases r<;>first|trivial|exact hr) hE
theorem aKn{x:List BK}(h:PTd X sd c false)(k:PSd X sd rest E):PSd X sd (.If c x [] pos::rest) E:=aH (fA h rfl<|cW k)
theorem pdc{k:Nat}{C:List D->R->Prop}(G:bG X.prog X.w X.K X.mg X.base x k n C){j:Nat}(hr:Room j X.A)(ha:PAd X sd (e::es) (ds.map R.val))(hc:C ds r)(hj:k<=j:=by decide)(hg:Gl X x:=by rfl)(hb:NB r:=by trivial)(hn:ds.length=n:=by rfl)
  (hdb:(x==("__debug__":Str))=false:=by decide) (he:AC (e::es) X.env=(false,eval e X.env)::AC es X.env:=by rfl) (hpl:(Af pos<|AC es X.env).any (·.1)=false:=by rfl):
  PEd X sd (.Call (.Name x p) (e::es) [] pos) r:=aIP G (hr.mono hj) hg ha hc (by cases r<;>first|trivial|exact hb) hn hdb he hpl
theorem pdx{j:Nat}{p1:Pos}(ha:PEd X sd a (.val<|.tup ds))(hd:ds[n]? =some d:=by rfl):PEd X sd (.Subscript a (.Constant (.int (n:Int)) j p1) pos) (.val d):=zM ha bX hd λ_ _=>rfl
theorem pdT{x1}(h:PAd X sd es (ds.map R.val))(hl:ds.length<=10000:=by exact fB rfl):PEd X sd (.Tuple es x1 pos) (.val<|.tup ds):=aCz h hl
theorem pdL(h:PAd X sd es (ds.map R.val))(hl:ds.length<=10000:=by exact fB rfl):PEd X sd (.List es pos) (.own ds):=oM h hl
theorem pgN(i:Nat)(hN:X.N.Nodup:=by assumption)(hi:X.N[i]? =some x:=by rfl)(hx:Loc X.env.scope x:=by first|exact Or.inl rfl|exact Or.inr rfl)(hf:X.fn x=true\/X.env.scope.names.lookup x=some .local:=by first|exact .inl rfl|exact .inr rfl|assumption):PGd X sd (.Name x pos) d (sd.set i<|.val d):=aGl i<|aDt hN hi hx hf
theorem nxt{P:List Slot->Prop}{a b:List Slot}(h:P b)(l:Le a b:=by repeat' (first|exact trivial|refine⟨.inr rfl, ?_⟩|refine⟨.inl rfl, ?_⟩)):∃s,Le a s/\P s:=⟨b,l,h⟩
theorem pdC{tg iter elt:Expr}{ifs:List Expr}{scope:Scope}{N M:List Str}{cap:List (Option Nat)}{sc:Scope}{Tb:D->List Slot}(p:D->Bool)(f:D->D)
  (hi:PId X (unO sd) PT0 tg iter ds) (hl:ds.length<=10000)
  (ht:∀cl C fp s H d,d∈ds->(ifs=[]/\p d=true)\/∃c,ifs=[c]/\PTd (cxB X N scope cl C fp s H) (Tb d) c (p d))
  (he:∀cl C fp s H d,d∈ds->p d=true->PEd (cxB X N scope cl C fp s H) (Tb d) elt (.val<|f d))
  (hg:∀cl C fp s H d,d∈ds->PGd (cxB X N scope cl C fp s H) (lI cap sd) tg d (Tb d):=by exact λ_ _ _ _ _ _ _=>pgN 0)
  (hle:∀d,d∈ds->Le (Tb d) (lI cap sd):=by intro _ _;repeat' (first|exact trivial|refine⟨.inr rfl, ?_⟩|refine⟨.inl rfl, ?_⟩))
  (hsc:X.env.scope=sc:=by rfl) (hcn:mE scope sc=true:=by decide+kernel) (hM:X.N=M:=by rfl) (hcap:lF N M scope sc cap=true:=by decide+kernel) (hk:scope.kind=.function:=by rfl)
  (hc:X.calm=true:=by rfl) (hs:∀x,Ao iter X.env x=pure x:=by intro _;rfl):
  PEd X sd (.ListComp elt [⟨tg,iter,ifs,0⟩] scope pos) (.own<|(ds.filter p).map f):=jL p f hi hl hsc hcn hM hcap hk hg hle ht he hc hs
theorem cS{mg:Str->Option BE}{base:BI}{st:BK}{N ps:List Str}{k:Nat}{C:List D->R->Prop}(F:FI K mg x st)
  (body:∀ (f:BG),N.Nodup→∀ (cdv:BE) (A:BH) (outer:List Env) (s:BF) (H:Hp) (E:XK),Room k (A.deeper (Ar x (bD st) s.heap.objs.size f cdv))→∀ds r,ds.length=ps.length→C ds r→
   PSd (jP CX0 P w K mg base N x (bD st) f cdv A outer s H E).nox (init N.length ds) (eO st) {nx:=λ_=>r=.val .non,rt:=λr'=>r'=r})
  (nd:N.Nodup:=by decide+kernel) (S:N.Nodup->kA N ps (bD st):=by exact λnd=>⟨rfl,rfl,rfl,nd,rfl,by decide+kernel,by decide+kernel⟩)
  (hb:∀ (kV doc pm:BE) (an:Option BG) (cdv ct:BE) (us:List BE),us.length=ps.length→bindArgs (dU x x (iA st) (eO st) (bD st) .none kV doc pm an cdv ct) ⟨us,[]⟩=pure (ps.zip us):=by
   intro _ _ _ _ _ _ _ h
   first
   |(obtain⟨_,rfl⟩:=aNq h;rfl)
   |(obtain⟨_,_,rfl⟩:=aNp h;rfl)
   |(obtain⟨_,_,_,rfl⟩:=aNE h;rfl)
   |(obtain⟨_,_,_,_,rfl⟩:=aNB h;rfl)
   |(obtain⟨_,_,_,_,_,rfl⟩:=aOJ h;rfl)
   |(obtain⟨_,_,_,_,_,_,rfl⟩:=len6 h;rfl)):bG P w K mg base x (k+1) ps.length C:=by
 obtain⟨f,fd,hm,F⟩:=F;exact aMT F (S nd) hm hb<|body f nd
theorem wJ{mg:Str->Option BE}{base:BI}{st:BK}{N ps:List Str}{k:Nat}{C:List D->Prop}{cls:BE}(F:FI K mg x st)
  (body:∀ (f:BG),N.Nodup→∀ (cdv:BE) (A:BH) (outer:List Env) (s:BF) (H:Hp) (E:XK),Room k (A.deeper (Ar x (bD st) s.heap.objs.size f cdv))→(∀a H',Same H H'→Smp H'→E (.ref a) (some a) H')→∀ds,ds.length=ps.length→C ds→
   PSd (jP (CX1 P w cls) P w K mg base N x (bD st) f cdv A outer s H E) (init N.length ds) (eO st) {nx:=λ_=>False,rt:=λ_=>False})
  (nd:N.Nodup:=by decide+kernel) (S:N.Nodup->kA N ps (bD st):=by exact λnd=>⟨rfl,rfl,rfl,nd,rfl,by decide+kernel,by decide+kernel⟩)
  (hb:∀ (kV doc pm:BE) (an:Option BG) (cdv ct:BE) (us:List BE),us.length=ps.length→bindArgs (dU x x (iA st) (eO st) (bD st) .none kV doc pm an cdv ct) ⟨us,[]⟩=pure (ps.zip us):=by
   intro _ _ _ _ _ _ _ h
   first
   |(obtain⟨_,rfl⟩:=aNq h;rfl)
   |(obtain⟨_,_,rfl⟩:=aNp h;rfl)
   |(obtain⟨_,_,_,rfl⟩:=aNE h;rfl)
   |(obtain⟨_,_,_,_,rfl⟩:=aNB h;rfl)
   |(obtain⟨_,_,_,_,_,rfl⟩:=aOJ h;rfl)
   |(obtain⟨_,_,_,_,_,_,rfl⟩:=len6 h;rfl)):jK P w K mg base x (k+1) ps.length C cls [] []:=by
 obtain⟨f,fd,hm,F⟩:=F;exact aJn F (S nd) hm hb<|body f nd
end DL
set_option maxHeartbeats 400000
namespace K55
open PySem PySem.Spec PyProof.Rows L2 DL
noncomputable def top(i:Nat):BK:=PySem.Challenge.pw_leastrow_k55_least_too_great.main.body.getD i<|.Pass ⟨0,0,0,0⟩
noncomputable abbrev aHo:BK:=top 8
noncomputable abbrev aHc:BK:=top 9
noncomputable abbrev aCl:BK:=top 10
noncomputable abbrev aKR:BK:=top 11
noncomputable abbrev aON:BK:=top 12
noncomputable abbrev aCU:BK:=top 15
noncomputable abbrev aBi:BK:=top 16
noncomputable abbrev aAH:BK:=top 17
noncomputable abbrev aBs:BK:=top 19
noncomputable abbrev aDG:BK:=top 18
noncomputable abbrev aNr:BK:=top 22
noncomputable abbrev aCE:BK:=top 23
noncomputable abbrev aIh:BK:=top 24
noncomputable abbrev aOG:BK:=top 25
noncomputable abbrev sFd:BK:=top 26
noncomputable abbrev aCu:BK:=top 27
noncomputable abbrev aIc:BK:=top 28
noncomputable abbrev zG:BK:=top 30
noncomputable abbrev aCA:BK:=top 31
noncomputable abbrev aKN:BK:=top 33
noncomputable abbrev aLc:BK:=top 34
noncomputable abbrev aOT:BK:=top 36
noncomputable abbrev aCt:BK:=top 38
noncomputable abbrev aOA:BK:=top 35
noncomputable abbrev aOv:BK:=top 37
noncomputable abbrev aCB:BK:=top 39
noncomputable abbrev aLi:BK:=top 41
noncomputable abbrev aLb:BK:=top 42
noncomputable abbrev sFt:BK:=top 44
noncomputable abbrev sLr:BK:=top 45
noncomputable abbrev aLh:BK:=top 46
noncomputable abbrev aCT:BK:=top 48
noncomputable abbrev aHu:BK:=top 49
noncomputable abbrev aCM:BK:=top 50
noncomputable abbrev aHj:BK:=top 51
noncomputable abbrev aOI:BK:=top 52
noncomputable abbrev aCG:BK:=top 53
noncomputable abbrev aOS:BK:=top 54
noncomputable abbrev aNa:BK:=top 55
noncomputable abbrev sGk:BK:=top 56
noncomputable abbrev aOU:BK:=top 57
noncomputable abbrev pO:BK:=top 58
section
variable {P:AF}{w:AM}{K:aB}{mg:Str->Option BE}{base:BI}{f:BG}{fd:Aa}
def aGK:List D->R->Prop:=λds r=>∃d,ds=[d]/\(Unit->∃i,d=.int i)/\r=.val (.bl true)
theorem aGu(F:FI K mg "is_whole" aHo)(zisinstance:mg "isinstance"=none)(zint:mg "int"=none)(zbool:mg "bool"=none):bG P w K mg base "is_whole" 1 1 aGK:=by
 refine cS (N:=["thing"]) (ps:=["thing"]) (k:=0) F λf nd cdv A outer s H E hr ds r hl c=> ?_
 obtain⟨d,rfl,hd,rfl⟩:=c;obtain⟨i,rfl⟩:=hd ();exact aX<|cY (PEd.cast (mP (uL rfl zisinstance rfl zint PyProof.Rows.boot_int (pdv 0) (λ_=>by simp) (aIx _<|.int i)) λ_=>oH (aHq<|uL rfl zisinstance rfl zbool PyProof.Rows.boot_bool (pdv 0) (λ_=>by simp) (aFO _<|.int i))) rfl) trivial rfl
theorem aKH(q:SQ):pl (sqD q)=true:=by
 show pl (iW _ _ _ _)=true;unfold iW
 split
 ·rfl
 ·split<;>rfl
theorem aLH(q:SQ):dep (sqD q)=1:=by
 show dep (iW _ _ _ _)=1;unfold iW
 split
 ·rfl
 ·split<;>rfl
theorem aDD{α:Type}(g:α->D)(h:∀a,pl (g a)=true):∀l:List α,plL (l.map g)=true
 |[]=>rfl
 |a::l=>by show(pl (g a)&&plL (l.map g))=true;rw[h a,aDD g h l];rfl
theorem aAQ{α:Type}(g:α->D)(n:Nat)(h:∀a,dep (g a)<=n):∀l:List α,iQ (l.map g)<=n
 |[]=>bP _
 |a::l=>Nat.max_le.mpr ⟨h a,aAQ g n h l⟩
def aAE:List D->R->Prop:=λds r=>∃p:Int×Int,ds=[cK p]/\0<=p.1/\p.1<=60/\r=.val (.int<|2^p.1.toNat)
theorem aFH(F:FI K mg "word_count" aHc)(zrange:mg "range"=none):bG P w K mg base "word_count" 1 1 aAE:=by
 refine cS (N:=["size","count","bit"]) (ps:=["size"]) (k:=0) F λf nd cdv A outer s H E hr ds r hl c=> ?_
 obtain⟨p,rfl,h0,h1,rfl⟩:=c;have ep:p.1=((p.1.toNat:Nat):Int):=by omega
 refine aH<|jA 1 nd rfl (Or.inl rfl) bX ?_;refine aH<|uH (ds:=gR 0 p.1.toNat) (λk=>[.val<|cK p,.val (.int<|2^k),.un]) (λk=>[.val<|cK p,.val (.int<|2^k),.val (.int<|0+(k:Int))]) (iR (n:=p.1.toNat) rfl zrange (PEd.cast (pdx (n:=0) (d:=.int p.1)<|pdv 0)<|by rw[<-ep])<|by omega) ⟨.inr rfl,.inr rfl,.inr rfl,trivial⟩ (λi d hd=> ?_) (λi d hd=> ?_) ?_
 ·obtain⟨_,rfl⟩:=iK hd;exact pgN 2
 ·refine aX<|jA 1 nd rfl (Or.inl rfl) (dY kU (pdv 1) bX (aIe (by decide)<|by decide)) ?_;exact⟨.inr rfl,.inr rfl,.inl rfl,trivial⟩
 ·refine aX<|cY (pdv 1) trivial ?_;rw[gI]
def aKW:List D->R->Prop:=λds r=>∃ (L:List (List Int)) (m:Nat),ds=[.lst<|L.map bJ,.int (m:Int)]/\L.length*m<=900/\m<=64/\(∀s∈L,s.length<=100)/\r=.own ((L.flatMap λs=>(bM m).map λ(w:Nat)=>s++[(w:Int)]).map bJ)
abbrev nl0:List Str:=["starts","count","longer","start"]
theorem aIz(F:FI K mg "with_each_word" aCl)(zrange:mg "range"=none):bG P w K mg base "with_each_word" 1 2 aKW:=by
 refine cS (N:=nl0) (ps:=["starts","count"]) (k:=0) F λf nd cdv A outer s H E hr ds r hl c=> ?_
 obtain⟨L,m,rfl,hL,hm64,hs,rfl⟩:=c;have nd2:(["word","start"]:List Str).Nodup:=by decide+kernel
 refine aH<|rX 2 nd rfl (Or.inl rfl) (oM (ds:=[]) aO<|bP _) λl=> ?_;refine aH<|uH (ds:=L.map bJ) (λk=>[.val<|tL L,.val<|.int (m:Int),.own l<|((L.take k).flatMap λs=>(bM m).map λ(w:Nat)=>s++[(w:Int)]).map bJ,.un]) (λk=>[.val<|tL L,.val<|.int (m:Int),.own l<|((L.take k).flatMap λs=>(bM m).map λ(w:Nat)=>s++[(w:Int)]).map bJ,.val (bJ<|L.getD k [])]) (fK<|pdv 0) ⟨.inr rfl,.inr rfl,.inr rfl,.inr rfl,trivial⟩ (λk d hd=> ?_) (λk d hd=> ?_) ?_
 ·obtain⟨_,rfl⟩:=oN hd;exact pgN 3
 ·obtain⟨hk,rfl⟩:=oN hd;have hmem:L.getD k []∈L:=getD_mem hk
  have et:L.take (k+1)=L.take k++[L.getD k []]:=by rw[eM];simp[cB,hk]
  have lk:(L.take k).length*m+m<=900:=by
   have h1:(L.take k).length+1<=L.length:=by rw[cH];omega
   have h2:=kY m h1;rw[aEZ] at h2;omega
  have comp:∀ {pos:Pos},PEd (jP CX0 P w K mg base nl0 "with_each_word" (bD aCl) f cdv A outer s H E).nox [.val<|tL L,.val<|.int (m:Int),.own l<|((L.take k).flatMap λs=>(bM m).map λ(w:Nat)=>s++[(w:Int)]).map bJ,.val (bJ<|L.getD k [])] (match(eO aCl).getD 1 (.Pass ⟨0,0,0,0⟩) with | .For _ _ [.Expr (.Call _ [c] _ _) _] _ _=>c|_=> .Constant .none 0 ⟨0,0,0,0⟩) (.own (((gR 0 m).filter λ_=>true).map λd=>D.tup<|(L.getD k []).map D.int++[d])):=λ{pos}=>by
   refine pdC (N:=["word","start"]) (M:=nl0) (cap:=[none,some 3]) (sc:=bD aCl) (Tb:=λd=>[.val d,.val (bJ<|L.getD k [])]) (λ_=>true) (λd=>D.tup<|(L.getD k []).map D.int++[d]) (iR (n:=m) rfl zrange (pdv 1)<|by omega) (by rw[gI];omega) (λcl C fp s H d _=>.inl ⟨rfl,rfl⟩) λcl C fp s H d _ _=> ?_
   refine mY (pdv 1) (pdT (ds:=[d])<|aC (pdv 0) aO) ?_;have:=hs _ hmem;simp only[aA,bU,fO];omega
  have ec:((gR 0 m).filter λ_=>true).map (λd=>D.tup<|(L.getD k []).map D.int++[d])=((bM m).map λ(w:Nat)=>L.getD k []++[(w:Int)]).map bJ:=by
   rw[cN.mpr λ_ _=>rfl];unfold gR;rw[bB,bB];refine bW λw _=> ?_
   simp[bJ]
  refine aX<|vA 2 rfl (pv 2) (PEd.val<|comp (pos:=⟨0,0,0,0⟩)) ?_ ?_
  ·rw[aA,oA,ec,aA,aA,fN];omega
  ·refine⟨.inr rfl,.inr rfl,.inr ?_,.inl rfl,trivial⟩;rw[et,ec,aFf,aW];simp
 ·refine aX<|lG 2 rfl (pv 2) ?_;show R.own _=R.own _;rw[aA,eI]
def aCk:List D->R->Prop:=λds r=>∃p,p∈bO/\ds=[cK p]/\r=.own ((hW (2^p.1.toNat) p.2.toNat).map bJ)
theorem aJs(F:FI K mg "fillings" aKR)(zrange:mg "range"=none)(GC:bG P w K mg base "word_count" 1 1 aAE)(GE:bG P w K mg base "with_each_word" 1 2 aKW):bG P w K mg base "fillings" 2 1 aCk:=by
 refine cS (N:=["size","count","told","box"]) (ps:=["size"]) (k:=1) F λf nd cdv A outer s H E hr ds r hl c=> ?_
 obtain⟨p,hp,rfl,rfl⟩:=c;obtain⟨h1,h2,h3,h4,h5⟩:=vT p hp;have e2:p.2=((p.2.toNat:Nat):Int):=by omega
 have m64:2^p.1.toNat<=64:=by
  have:p.1.toNat<=6:=by omega
  exact cG (qC (by decide) this)<|by decide
 have ec:(2:Int)^p.1.toNat=((2^p.1.toNat:Nat):Int):=by push_cast;rfl
 refine aH<|jA 1 nd rfl (Or.inl rfl) (pdc (ds:=[cK p]) GC hr (aC (pdv 0) aO) ⟨p,rfl,by omega,by omega,rfl⟩) ?_;refine aH<|pK (ds:=[bJ []]) 2 (pdL (ds:=[bJ []])<|aC (aCz (ds:=[]) aO<|bP _) aO) λl=> ?_;refine aH<|fM (ds:=gR 0 p.2.toNat) (λk sd=>∃l,sd=[.val<|cK p,.val (.int<|2^p.1.toNat),.own l<|(hW (2^p.1.toNat) k).map bJ,.un]) (iR (n:=p.2.toNat) rfl zrange (PEd.cast (pdx (n:=1) (d:=.int p.2)<|pdv 0)<|by rw[<-e2])<|by omega) ⟨_,Le.refl _,l,rfl⟩ (λk d sdk hd hk=> ?_) λsdn hn=> ?_
 ·obtain⟨hk2,rfl⟩:=iK hd;obtain⟨l2,rfl⟩:=hk;refine⟨[.val<|cK p,.val (.int<|2^p.1.toNat),.own l2<|(hW (2^p.1.toNat) k).map bJ,.val (.int<|0+(k:Int))],pgN 3, ?_⟩;refine iB 2 rfl ?_;refine aX (rX 2 nd rfl (Or.inl rfl) (pdc (ds:=[tL<|hW (2^p.1.toNat) k,.int ((2^p.1.toNat:Nat):Int)]) GE hr (aC (pdv 2)<|aC (PEd.cast (pdv 1)<|by rw[ec]) aO) ⟨hW (2^p.1.toNat) k,2^p.1.toNat,rfl, ?_,m64,λs hs=> ?_,rfl⟩) λl3=> ?_)
  ·rw[rL];exact yG p hp k hk2
  ·rw[vX _ _ s hs];omega
  ·exact⟨[.val<|cK p,.val (.int<|2^p.1.toNat),.own l3<|(hW (2^p.1.toNat)<|k+1).map bJ,.un],⟨.inr rfl,.inr rfl,.inr rfl,.inl rfl,trivial⟩,l3,rfl⟩
 ·rw[gI] at hn;obtain⟨l2,rfl⟩:=hn;exact aX<|lG 2 rfl (pv 2) rfl
def aOQ:List D->R->Prop:=λds r=>∃ (p:Int×Int) (ws:List Int),ds=[cK p,bJ ws]/\0<=p.1/\p.1<=60/\r=.val (.int<|tU (2^p.1.toNat) ws)
theorem aMc(F:FI K mg "number_of" aON)(GC:bG P w K mg base "word_count" 1 1 aAE):bG P w K mg base "number_of" 2 2 aOQ:=by
 refine cS (N:=["size","filling","count","number","word"]) (ps:=["size","filling"]) (k:=1) F λf nd cdv A outer s H E hr ds r hl c=> ?_
 obtain⟨p,ws,rfl,h0,h1,rfl⟩:=c
 have b1: -(2^64)<(2:Int)^p.1.toNat/\(2:Int)^p.1.toNat<2^64:=by
  have h3:p.1.toNat<=60:=by omega
  have h4:2^p.1.toNat<=2^60:=qC (by decide) h3;have h5:(2:Int)^p.1.toNat=((2^p.1.toNat:Nat):Int):=by push_cast;rfl
  rw[h5];have h6:(2:Nat)^60=1152921504606846976:=by decide
  rw[h6] at h4;generalize 2^p.1.toNat=q at h4 ⊢;omega
 refine aH<|jA 2 nd rfl (Or.inl rfl) (pdc (ds:=[cK p]) GC hr (aC (pdv 0) aO) ⟨p,rfl,h0,h1,rfl⟩) ?_;refine aH<|jA 3 nd rfl (Or.inl rfl) bX ?_;refine aH<|uH (ds:=ws.map D.int) (λk=>[.val<|cK p,.val<|bJ ws,.val (.int<|2^p.1.toNat),.val<|.int (tU (2^p.1.toNat)<|ws.take k),.un]) (λk=>[.val<|cK p,.val<|bJ ws,.val (.int<|2^p.1.toNat),.val<|.int (tU (2^p.1.toNat)<|ws.take k),.val (.int<|ws.getD k 0)]) (mX<|pdv 1) ⟨.inr rfl,.inr rfl,.inr rfl,.inr rfl,.inr rfl,trivial⟩ (λk d hd=> ?_) (λk d hd=> ?_) ?_
 ·obtain⟨_,rfl⟩:=aAN hd;exact pgN 4
 ·obtain⟨hk,rfl⟩:=aAN hd
  have et:ws.take (k+1)=ws.take k++[ws.getD k 0]:=by rw[eM];simp[cB,hk]
  refine aX<|jA 3 nd rfl (Or.inl rfl) (gF iI (dY kU (pdv 3) (pdv 2)<|aIe b1.1 b1.2)<|pdv 4) ?_;refine⟨.inr rfl,.inr rfl,.inr rfl,.inr ?_,.inl rfl,trivial⟩;rw[et];unfold tU;rw[iM];rfl
 ·refine aX<|cY (pdv 3) trivial ?_;show R.val _=R.val _;rw[aA,eI]
def aDC:List D->R->Prop:=λds r=>∃ (k:Nat) (m a:Int),ds=[.str<|nm k,.int m,.int a]/\7<=k/\k<10/\0<m/\r=.val (.int<|aKJ k m a)
theorem aEG(F:FI K mg "word_by_itself" aCU):bG P w K mg base "word_by_itself" 1 3 aDC:=by
 refine cS (N:=["name","count","word"]) (ps:=["name","count","word"]) (k:=0) F λf nd cdv A outer s H E hr ds r hl c=> ?_
 obtain⟨k,m,a,rfl,h7,h10,hm0,rfl⟩:=c;refine aH<|gJ (k:=decide<|k=7) (cP (pdv 0) dA rfl rfl rfl<|zW k h10) (λh=> ?_) λh=>cW ?_
 ·have:k=7:=by simpa using h
  subst this;exact aX<|kF (gF sP (gF sP (pdv 1) bX)<|pdv 2)
 have n7:¬ k=7:=by simpa using h
 refine aH<|gJ (k:=decide<|k=8) (cP (pdv 0) dA rfl rfl rfl<|aFi k h10) (λh=> ?_) λh=>cW ?_
 ·have:k=8:=by simpa using h
  subst this;exact aX (kF<|dY gP (dY kU (pdv 2) bX (aIe (by decide)<|by decide)) (pdv 1) hm0)
 have n8:¬ k=8:=by simpa using h
 have:k=9:=by omega
 subst this;exact aX (kF<|dY aJh (pdv 2) bX ⟨by decide,by decide⟩)
def aAR:List D->R->Prop:=λds r=>∃ (k:Nat) (m a c:Int),ds=[.str<|nm k,.int m,.int a,.int c]/\k<6/\0<m/\r=.val (.int<|zL k m a c)
theorem aBL(F:FI K mg "word_by_another" aBi):bG P w K mg base "word_by_another" 1 4 aAR:=by
 refine cS (N:=["name","count","word","other"]) (ps:=["name","count","word","other"]) (k:=0) F λf nd cdv A outer s H E hr ds r hl c=> ?_
 obtain⟨k,m,a,c,rfl,h6,hm0,rfl⟩:=c;have h10:k<10:=by omega
 refine aH<|gJ (k:=decide<|k=0) (cP (pdv 0) dA rfl rfl rfl<|aCQ k h10) (λh=> ?_) λh=>cW ?_
 ·have:k=0:=by simpa using h
  subst this;exact aX<|kF (gF aGY (pdv 2)<|pdv 3)
 have n0:¬ k=0:=by simpa using h
 refine aH<|gJ (k:=decide<|k=1) (cP (pdv 0) dA rfl rfl rfl<|aHZ k h10) (λh=> ?_) λh=>cW ?_
 ·have:k=1:=by simpa using h
  subst this;exact aX<|kF (gF aLk (pdv 2)<|pdv 3)
 have n1:¬ k=1:=by simpa using h
 refine aH<|gJ (k:=decide<|k=2) (cP (pdv 0) dA rfl rfl rfl<|aCy k h10) (λh=> ?_) λh=>cW ?_
 ·have:k=2:=by simpa using h
  subst this;exact aX<|kF (gF aHt (pdv 2)<|pdv 3)
 have n2:¬ k=2:=by simpa using h
 refine aH<|gJ (k:=decide<|k=3) (cP (pdv 0) dA rfl rfl rfl<|aCv k h10) (λh=> ?_) λh=>cW ?_
 ·have:k=3:=by simpa using h
  subst this;exact aX (kF<|dY gP (gF iI (pdv 2)<|pdv 3) (pdv 1) hm0)
 have n3:¬ k=3:=by simpa using h
 refine aH<|gJ (k:=decide<|k=4) (cP (pdv 0) dA rfl rfl rfl<|aAi k h10) (λh=> ?_) λh=>cW ?_
 ·have:k=4:=by simpa using h
  subst this;exact aX (kF<|dY gP (gF sP (pdv 2)<|pdv 3) (pdv 1) hm0)
 have n4:¬ k=4:=by simpa using h
 have:k=5:=by omega
 subst this;exact aX (kF<|pdv 3)
structure aNx(p:Int×Int)(k:Nat)(i j n:Int)(ws:List Int):Prop where
 sz:p∈bO
 k10:k<10
 i0:0<=i/\i<p.2
 j0:0<=j/\j<p.2
 n0:0<=n/\n<((2^p.1.toNat:Nat):Int)
 len:ws.length=p.2.toNat
 wd:∀w∈ws,0<=w/\w<((2^p.1.toNat:Nat):Int)
noncomputable def aKD(p:Int×Int)(k:Nat)(i j n:Int)(ws:List Int):Int:=newW k ((2^p.1.toNat:Nat):Int) (ws.getD i.toNat 0) (ws.getD j.toNat 0) n
def aAY:List D->R->Prop:=λds r=>∃p k i j n ws,aNx p k i j n ws/\ds=[cK p,iW k i j n,bJ ws]/\r=.val (.int<|aKD p k i j n ws)
theorem aMK(n:Nat):(0:Int)<((2^n:Nat):Int):=by have:0<2^n:=Nat.pow_pos (by decide);generalize 2^n=q at this ⊢;omega
theorem aGQ{ws:List Int}{i:Int}{n:Nat}(h:ws.length=n)(h1:i<(n:Int))(h0:0<=i):(ws.map D.int)[i.toNat]? =some (.int<|ws.getD i.toNat 0):=by
 have:i.toNat<ws.length:=by omega
 simp[cB,this]
theorem aCd(F:FI K mg "new_word" aAH)(byself:∃ad,mg "BY_ITSELF"=some (.ref ad)/\∀H:Hp,SqT K H ad [V.str "not",V.str "up",V.str "down"])(GC:bG P w K mg base "word_count" 1 1 aAE)(GI:bG P w K mg base "word_by_itself" 1 3 aDC)(GA:bG P w K mg base "word_by_another" 1 4 aAR):bG P w K mg base "new_word" 2 3 aAY:=by
 refine cS (N:=["size","step","filling","name","word"]) (ps:=["size","step","filling"]) (k:=1) F λf nd cdv A outer s H E hr ds r hl c=> ?_
 obtain⟨p,k,i,j,n,ws,O,rfl,rfl⟩:=c;obtain⟨h1,h2,h3,h4,h5⟩:=vT p O.sz;have hm0:=aMK p.1.toNat;have ec:(2:Int)^p.1.toNat=((2^p.1.toNat:Nat):Int):=by push_cast;rfl
 have e2:p.2=((p.2.toNat:Nat):Int):=by omega
 obtain⟨ad,hB,hq⟩:=byself;have ai:(ws.map D.int)[i.toNat]? =some (.int<|ws.getD i.toNat 0):=aGQ O.len (by have:=O.i0.2;omega) O.i0.1;have aj:(ws.map D.int)[j.toNat]? =some (.int<|ws.getD j.toNat 0):=aGQ O.len (by have:=O.j0.2;omega) O.j0.1
 by_cases k6:k<6
 ·have es:iW k i j n=.tup [.str<|nm k,.int i,.int j]:=by unfold iW;rw[if_pos k6]
  rw[es];refine aH<|jA 3 nd rfl (Or.inl rfl) (pdx (n:=0)<|pdv 1) ?_;refine aH (fA (cP (pdv 3) dA rfl rfl rfl<|sN k O.k10) (by simp;omega)<|cW ?_);refine aH<|jA 4 nd rfl (Or.inl rfl) (nE (i:=i) (pdv 2) (pdx (n:=1)<|pdv 1) O.i0.1 ai λ_ _=>rfl) ?_;refine aH (fA (aDf rfl hB (λH=>hq H) (pdv 3) rfl rfl rfl) (by rw[aCW k O.k10];simp;omega)<|cW ?_);refine aX<|cY (pdc (ds:=[.str<|nm k,.int ((2^p.1.toNat:Nat):Int),.int<|ws.getD i.toNat 0,.int<|ws.getD j.toNat 0]) GA hr (aC (pdv 3)<|aC (PEd.cast (pdc (ds:=[cK p]) GC hr (aC (pdv 0) aO) ⟨p,rfl,by omega,by omega,rfl⟩)<|by rw[ec]) (aC (pdv 4)<|aC (nE (i:=j) (pdv 2) (pdx (n:=2)<|pdv 1) O.j0.1 aj λ_ _=>rfl) aO)) ⟨k,_,_,_,rfl,k6,hm0,rfl⟩) trivial ?_;unfold aKD newW;rw[if_neg<|by omega,if_neg<|by omega]
 ·by_cases k6':k=6
  ·subst k6';have es:iW 6 i j n=.tup [.str<|nm 6,.int i,.int n]:=rfl;rw[es];refine aH<|jA 3 nd rfl (Or.inl rfl) (pdx (n:=0)<|pdv 1) ?_;refine aH<|hX (cP (pdv 3) dA rfl rfl rfl<|sN 6 O.k10) rfl ?_;exact aX<|kF (pdx (n:=2)<|pdv 1)
  ·have es:iW k i j n=.tup [.str<|nm k,.int i]:=by unfold iW;rw[if_neg k6,if_neg k6']
   rw[es];refine aH<|jA 3 nd rfl (Or.inl rfl) (pdx (n:=0)<|pdv 1) ?_;refine aH (fA (cP (pdv 3) dA rfl rfl rfl<|sN k O.k10) (by simp;omega)<|cW ?_);refine aH<|jA 4 nd rfl (Or.inl rfl) (nE (i:=i) (pdv 2) (pdx (n:=1)<|pdv 1) O.i0.1 ai λ_ _=>rfl) ?_;refine aH<|hX (aDf rfl hB (λH=>hq H) (pdv 3) rfl rfl rfl) (by rw[aCW k O.k10];simp;omega) ?_;refine aX<|cY (pdc (ds:=[.str<|nm k,.int ((2^p.1.toNat:Nat):Int),.int<|ws.getD i.toNat 0]) GI hr (aC (pdv 3) (aC (PEd.cast (pdc (ds:=[cK p]) GC hr (aC (pdv 0) aO) ⟨p,rfl,by omega,by omega,rfl⟩)<|by rw[ec])<|aC (pdv 4) aO)) ⟨k,_,_,rfl,by omega,O.k10,hm0,rfl⟩) trivial ?_;unfold aKD newW;rw[if_neg k6',if_pos<|by omega]
def aBd:List D->R->Prop:=λds r=>∃k i j n,ds=[iW k i j n]/\r=.val (.int i)
theorem aJT(k:Nat)(i j n:Int):∃es,iW k i j n=.tup (.str (nm k)::.int i::es):=by
 unfold iW
 split
 ·exact⟨_,rfl⟩
 ·split
  ·exact⟨_,rfl⟩
  ·exact⟨_,rfl⟩
theorem aBW(F:FI K mg "written_box" aBs):bG P w K mg base "written_box" 1 1 aBd:=by
 refine cS (N:=["step"]) (ps:=["step"]) (k:=0) F λf nd cdv A outer s H E hr ds r hl c=> ?_
 obtain⟨k,i,j,n,rfl,rfl⟩:=c;obtain⟨es,e⟩:=aJT k i j n;rw[e];exact aX<|kF (pdx (n:=1)<|pdv 0)
noncomputable def aOy(p:Int×Int)(k:Nat)(i j n:Int)(ws:List Int):List Int:=ws.set i.toNat<|aKD p k i j n ws
def aDH:List D->R->Prop:=λds r=>∃p k i j n ws,aNx p k i j n ws/\ds=[cK p,iW k i j n,bJ ws]/\r=.val (bJ<|aOy p k i j n ws)
theorem sZ(ws:List Int){i:Nat}(h:i<ws.length):DL.cutD (ws.map D.int) none (some (i:Int))=(ws.take i).map D.int:=by
 unfold DL.cutD;have h1:HT.sIx (ws.map D.int).length 0 none=0:=rfl
 have h2:HT.sIx (ws.map D.int).length (ws.map D.int).length (some (i:Int))=i:=by rw[HT.sIx_nat,aA];omega
 rw[h1,h2,mJ];simp
theorem qX(ws:List Int){i:Nat}(h:i<ws.length):DL.cutD (ws.map D.int) (some<|(i:Int)+1) none=(ws.drop<|i+1).map D.int:=by
 unfold DL.cutD;have e:((i:Int)+1)=((i+1:Nat):Int):=by push_cast;rfl
 have h1:HT.sIx (ws.map D.int).length 0 (some<|(i:Int)+1)=i+1:=by rw[e,HT.sIx_nat,aA];omega
 have h2:HT.sIx (ws.map D.int).length (ws.map D.int).length none=ws.length:=by rw[HT.sIx_none,aA]
 rw[h1,h2,rZ,hV<|by rw[kH,aA];omega]
theorem aER(F:FI K mg "step_on" aDG)(GB:bG P w K mg base "written_box" 1 1 aBd)(GN:bG P w K mg base "new_word" 2 3 aAY):bG P w K mg base "step_on" 3 3 aDH:=by
 refine cS (N:=["size","step","filling","box"]) (ps:=["size","step","filling"]) (k:=2) F λf nd cdv A outer s H E hr ds r hl c=> ?_
 obtain⟨p,k,i,j,n,ws,O,rfl,rfl⟩:=c;obtain⟨h1,h2,h3,h4,h5⟩:=vT p O.sz;have li:i.toNat<ws.length:=by have:=O.i0;rw[O.len];omega
 have ei:i=((i.toNat:Nat):Int):=by have:=O.i0;omega
 have l6:ws.length<=6:=by rw[O.len];omega
 refine aH<|iG (d:=.int ((i.toNat:Nat):Int)) 3 (PEd.cast (pdc (ds:=[iW k i j n]) GB hr (aC (pdv 1) aO) ⟨k,i,j,n,rfl,rfl⟩)<|by rw[<-ei]) ?_;refine aX<|cY (PEd.cast (mY (mY (aAG (ol:=none) (oh:=some ((i.toNat:Nat):Int)) (pdv 2) trivial (pdv 3) ?_) (pdT (ds:=[.int<|aKD p k i j n ws])<|aC (pdc (ds:=[cK p,iW k i j n,bJ ws]) GN hr (aC (pdv 0) (aC (pdv 1)<|aC (pdv 2) aO)) ⟨p,k,i,j,n,ws,O,rfl,rfl⟩) aO) ?_) (aAG (ol:=some<|((i.toNat:Nat):Int)+1) (oh:=none) (pdv 2) (gF iI (pdv 3) bX) trivial ?_) ?_) ?_) trivial rfl
 ·rw[HT.sIx_nat,aA];omega
 ·rw[sZ ws li];simp only[aA,cH,bU,fO];omega
 ·have e:(((i.toNat:Nat):Int)+1)=((i.toNat+1:Nat):Int):=by push_cast;rfl
  rw[e,HT.sIx_nat,aA];omega
 ·rw[sZ ws li,qX ws li];simp only[aN,aA,cH,kH,bU,fO];omega
 ·rw[sZ ws li,qX ws li];unfold bJ aOy;rw[tE,if_pos li];simp
theorem aLK{p:Int×Int}{q:SQ}{ws:List Int}(O:pZ p q)(G:Fil p ws):aNx p q.1 q.2.1 q.2.2.1 q.2.2.2 ws:=⟨O.sz,O.k10,O.i0,O.j0,O.n0,G.len,G.wd⟩
theorem aFI(F:FI K mg "numbers_of_step" aNr)(ztuple:mg "tuple"=none)(GN:bG P w K mg base "number_of" 2 2 aOQ)(GS:bG P w K mg base "step_on" 3 3 aDH)(GF:bG P w K mg base "fillings" 2 1 aCk):bG P w K mg base "numbers_of_step" 4 2 aOw:=by
 have nd2:(["filling","size","step"]:List Str).Nodup:=by decide+kernel
 refine cS (N:=["size","step"]) (ps:=["size","step"]) (k:=3) F λf nd cdv A outer s H E hr ds r hl c=> ?_
 obtain⟨p,q,hp,O,rfl,rfl⟩:=c;have f9:(bQ p).length<=64:=jB hp;obtain⟨h1,h2,h3,h4,h5⟩:=vT p hp
 have ec:(((bQ p).map bJ).filter λ_=>true).map (λd=>D.int ((sL p (onQ p q<|lR d):Nat):Int))=cD (fS p q):=by
  rw[cN.mpr λ_ _=>rfl];unfold cD fS;rw[bB,bB];refine bW λg _=> ?_
  show D.int ((sL p (onQ p q (lR<|bJ g)):Nat):Int)=_;rw[jV];rfl
 refine aX (kF<|kZ rfl ztuple (PEd.bor<|PEd.val (PEd.cast (jL (ds:=(bQ p).map bJ) (N:=["filling","size","step"]) (M:=["size","step"]) (cap:=[none,some 0,some 1]) (sc:=bD aNr) (Tb:=λd=>[.val d,.val<|cK p,.val<|sqD q]) (λ_=>true) (λd=>D.int ((sL p (onQ p q<|lR d):Nat):Int)) (fK (PEd.val<|pdc (ds:=[cK p]) GF hr (aC (pdv 0) aO) ⟨p,hp,rfl,rfl⟩)) (by rw[aA];omega) rfl (by decide+kernel) rfl (by decide+kernel) rfl (λcl C fp s H d hd=>pgN 0) (λd hd=>⟨.inl rfl,.inr rfl,.inr rfl,trivial⟩) (λcl C fp s H d hd=>.inl ⟨rfl,rfl⟩) λcl C2 fp s H d hd _=> ?_)<|by rw[ec])));obtain⟨g,hg,rfl⟩:=uZ hd;rw[jV];have G:=rS hp hg;have e:=(aCP hp<|zA O G).1;exact pdc (ds:=[cK p,bJ<|onQ p q g]) GN hr (aC (pdv 1)<|aC (pdc (ds:=[cK p,sqD q,bJ g]) GS hr (aC (pdv 1) (aC (pdv 2)<|aC (pdv 0) aO)) ⟨p,_,_,_,_,g,aLK O G,rfl,rfl⟩) aO) ⟨p,_,rfl,by omega,by omega,by rw[e]⟩
theorem aBx(F:FI K mg "moves_of" aCE)(GN:bG P w K mg base "numbers_of_step" 4 2 aOw):bG P w K mg base "moves_of" 5 2 aCr:=by
 have nd2:(["step","price","size"]:List Str).Nodup:=by decide+kernel
 refine cS (N:=["size","stock"]) (ps:=["size","stock"]) (k:=4) F λf nd cdv A outer s H E hr ds r hl c=> ?_
 obtain⟨p,L,hp,S,dn,rfl,rfl⟩:=c;have l8:=S.le
 have ec:((L.map skD).filter λ_=>true).map (λd=>mvD p<|vL L d)=L.map (mvD p):=by
  rw[cN.mpr λ_ _=>rfl,bB];refine bW λs hs=> ?_
  show mvD p (vL L<|skD s)=_;rw[wU dn hs]
 refine aX<|cY (PEd.cast (jL (ds:=L.map skD) (N:=["step","price","size"]) (M:=["size","stock"]) (cap:=[none,none,some 0]) (sc:=bD aCE) (Tb:=λd=>[.val<|sqD (vL L d).1,.val<|.int (vL L d).2,.val<|cK p]) (λ_=>true) (λd=>mvD p<|vL L d) (fK<|pdv 1) (by rw[aA];omega) rfl (by decide+kernel) rfl (by decide+kernel) rfl (λcl C fp s H d hd=> ?_) (λd hd=>⟨.inl rfl,.inl rfl,.inr rfl,trivial⟩) (λcl C fp s H d hd=>.inl ⟨rfl,rfl⟩) λcl C2 fp s H d hd _=> ?_)<|by rw[ec]) trivial rfl
 ·obtain⟨z,hz,rfl⟩:=aQ.mp hd;rw[wU dn hz];exact jX (ds:=[sqD z.1,.int z.2]) (js:=[0,1]) rfl (dZ (pgn 0)<|dZ (pgn 1) jY) rfl rfl
 ·obtain⟨z,hz,rfl⟩:=aQ.mp hd;rw[wU dn hz];exact pdT (ds:=[.int z.2,tN<|fS p z.1]) (aC (pdv 1)<|aC (pdc (ds:=[cK p,sqD z.1]) GN hr (aC (pdv 2)<|aC (pdv 0) aO) ⟨p,z.1,hp,(S.st z hz).1,rfl,rfl⟩) aO)
theorem aEw(F:FI K mg "numbers_behind" aIh)(ztuple:mg "tuple"=none):bG P w K mg base "numbers_behind" 1 2 aFj:=by
 have nd2:(["number","other"]:List Str).Nodup:=by decide+kernel
 refine cS (N:=["one","other"]) (ps:=["one","other"]) (k:=0) F λf nd cdv A outer s H E hr ds r hl c=> ?_
 obtain⟨one,other,h1,h2,rfl,rfl⟩:=c
 have ec:((cD one).filter λ_=>true).map (λd=>match d with | .int i=>D.int ((other.getD i.toNat 0:Nat):Int)|_=>.non)=cD (fH other one):=by rw[cN.mpr λ_ _=>rfl];unfold cD fH;rw[bB,bB];rfl
 refine aX (kF<|kZ rfl ztuple (PEd.bor<|PEd.val (PEd.cast (jL (ds:=cD one) (N:=["number","other"]) (M:=["one","other"]) (cap:=[none,some 1]) (sc:=bD aIh) (Tb:=λd=>[.val d,.val (.tup<|cD other)]) (λ_=>true) (λd=>match d with | .int i=>D.int ((other.getD i.toNat 0:Nat):Int)|_=>.non) (mX<|pdv 0) (by rw[xA];omega) rfl (by decide+kernel) rfl (by decide+kernel) rfl (λcl C fp s H d hd=>pgN 0) (λd hd=>⟨.inl rfl,.inr rfl,trivial⟩) (λcl C fp s H d hd=>.inl ⟨rfl,rfl⟩) λcl C2 fp s H d hd _=> ?_)<|by rw[ec])));obtain⟨i,hi,rfl⟩:=aQ.mp hd;exact zM (n:=i) (pdv 1) (pdv 0) (aMN<|h2 i hi) λ_ _=>rfl
abbrev nl1:List Str:=["waiting","moves","bound","rank","row","numbers","place","move","price","longer"]
theorem aGg(F:FI K mg "put_longer_rows" aOG)(zenumerate:mg "enumerate"=none)(GB:bG P w K mg base "numbers_behind" 1 2 aFj):qW P w K (wtL P w K) mg base "put_longer_rows" 2 6 aNo:=by
 obtain⟨f,fd,hm,F⟩:=F;have nd:nl1.Nodup:=by decide+kernel
 refine aJi (Z:=wtL P w K) (N:=nl1) (ps:=["waiting","moves","bound","rank","row","numbers"]) (k:=1) F ⟨rfl,rfl,rfl,nd,rfl,by decide+kernel,by decide+kernel⟩ hm (λ_ _ _ _ _ _ us hl=>match us,hl with | [_,_,_,_,_,_],_=>rfl) (λcdv A outer s H E B hB hr a ds post hl c=> ?_)<|aFE P w K;obtain⟨p,L,b,r,row,nb,hp,L9,hnb,r9,ndT,hT,rfl,rfl⟩:=c;have hu:=uN hr 4;have f9:(bQ p).length<=64:=jB hp;refine aX<|fM (ds:=tJ (L.map<|mvD p)) (λt sd=>∃a':Wt,a'.l=a.l/\a'.T=lgQ p L b r row nb t a.T/\sd=[wtS P w K a',.val<|.lst (L.map<|mvD p),.val<|.int b,.val<|.tup [.int r.1,.int r.2],.val (.tup<|cD row),.val (.tup<|cD nb),.un,.un,.un,.un]) (aAK rfl zenumerate<|pdv 1) ⟨_,Le.refl _,a,rfl,rfl,rfl⟩ (λt d sdt hd ht=> ?_) λsdn hn=> ?_
 ·obtain⟨x,hx,rfl⟩:=sX hd;obtain⟨a',el,eT,rfl⟩:=ht
  have tl:t<L.length:=by have:=(aD.mp hx).1;simpa using this
  have ex:x=mvD p (L.getD t AN):=by rw[aS,eV tl] at hx;rw[<-bS.inj hx];simp[cB,tl]
  subst ex;have es:lgQ p L b r row nb (t+1) a.T=if r.1+(L.getD t AN).2<=b then jQ (lgQ p L b r row nb t a.T) (r.1+(L.getD t AN).2,r.2+1) (nP (row++[t],fH (fS p (L.getD t AN).1) nb)) else lgQ p L b r row nb t a.T:=rfl
  have ndt:=aFo (p:=p) (L:=L) (b:=b) (r:=r) (row:=row) (nb:=nb) ndT t;have tt:=aHz (p:=p) (L:=L) (b:=b) (r:=r) (row:=row) (nb:=nb) (T:=a.T) t;rw[<-eT] at es ndt tt;obtain⟨pl0,pl1⟩:=hnb;generalize L.getD t AN=m at es;refine⟨[wtS P w K a',.val<|.lst (L.map<|mvD p),.val<|.int b,.val<|.tup [.int r.1,.int r.2],.val (.tup<|cD row),.val (.tup<|cD nb),.val<|.int (t:Int),.val<|mvD p m,.un,.un],jX (js:=[6,7]) rfl (dZ (pgn 6)<|dZ (pgn 7) jY) rfl rfl, ?_⟩;refine aH<|iG (d:=.int<|r.1+m.2) 8 (gF iI (pdx (n:=0) (d:=.int r.1)<|pdv 3) (pdx (n:=0) (d:=.int m.2)<|pdv 7)) ?_;refine aX<|gJ (k:=decide<|r.1+m.2<=b) (kM wC (pdv 8) (pdv 2)<|fR _) (λq=> ?_) λq=>cW ?_
  ·rw[if_pos<|of_decide_eq_true q] at es;have e1:cD row++[.int (t:Int)]=cD (row++[t]):=by unfold cD;rw[aW];rfl
   refine aH<|iG (d:=p2D<|nP (row++[t],fH (fS p m.1) nb)) 9 (PEd.cast (pdT (ds:=[.tup (cD<|row++[t]),.tup (cD<|fH (fS p m.1) nb)]) (aC (PEd.cast (mY (d1:=cD row) (d2:=[.int (t:Int)]) (pdv 4) (pdT (ds:=[.int (t:Int)])<|aC (pdv 6) aO)<|by unfold cD;rw[aA];show _+1<=10000;omega)<|by rw[e1])<|aC (pdc (ds:=[.tup<|cD nb,.tup (cD<|fS p m.1)]) (r:=.val<|.tup (cD<|fH (fS p m.1) nb)) GB hr (aC (pdv 5)<|aC (pdx (n:=1) (d:=.tup (cD<|fS p m.1))<|pdv 7) aO) ⟨nb,fS p m.1,by omega,λi hi=>by rw[aAj];exact pl1 i hi,rfl,rfl⟩) aO))<|by rw[aNA]) ?_;generalize nP (row++[t],fH (fS p m.1) nb)=y at es;refine aX<|aET (k:=rkK (r.1+m.2,r.2+1)) (ks:=wtK a'.T) (ls:=a'.ls) (dss:=wtD a'.T) (d:=p2D y) 0 (by show(A.deeper _).units+1<AO;omega) rfl (pv 0) (PEd.cast (pdT (ds:=[.int<|r.1+m.2,.int<|r.2+1]) (aC (pdv 8)<|aC (gF iI (pdx (n:=1) (d:=.int r.2)<|pdv 3) bX) aO)) rfl) (λz=>kJ 9 rfl<|pv 9) (by have:=aIp a'.T;unfold wtD;rw[aA];omega) (λds hd=>by have:=aJZ ds hd;omega) (λn ds hk hd=> ?_) λhk a9=> ?_
   ·obtain⟨k1,k2⟩:=uY y ndt hk hd;refine⟨[wtS P w K ⟨a'.l,a'.ls,jQ a'.T (r.1+m.2,r.2+1) y⟩,.val<|.lst (L.map<|mvD p),.val<|.int b,.val<|.tup [.int r.1,.int r.2],.val (.tup<|cD row),.val (.tup<|cD nb),.un,.un,.un,.un],⟨.inr ?_,.inr rfl,.inr rfl,.inr rfl,.inr rfl,.inr rfl,.inl rfl,.inl rfl,.inl rfl,.inl rfl,trivial⟩,⟨a'.l,a'.ls,jQ a'.T (r.1+m.2,r.2+1) y⟩,el,es.symm,rfl⟩;unfold wtS;rw[k1,k2];rfl
   ·have k1:=uU y hk;refine⟨[wtS P w K ⟨a'.l,a'.ls++[a9],jQ a'.T (r.1+m.2,r.2+1) y⟩,.val<|.lst (L.map<|mvD p),.val<|.int b,.val<|.tup [.int r.1,.int r.2],.val (.tup<|cD row),.val (.tup<|cD nb),.un,.un,.un,.un],⟨.inr ?_,.inr rfl,.inr rfl,.inr rfl,.inr rfl,.inr rfl,.inl rfl,.inl rfl,.inl rfl,.inl rfl,trivial⟩,⟨a'.l,a'.ls++[a9],jQ a'.T (r.1+m.2,r.2+1) y⟩,el,es.symm,rfl⟩;unfold wtS;rw[k1];unfold wtK wtD;rw[aW,aW];rfl
  ·rw[if_neg<|of_decide_eq_false q] at es;exact⟨[wtS P w K a',.val<|.lst (L.map<|mvD p),.val<|.int b,.val<|.tup [.int r.1,.int r.2],.val (.tup<|cD row),.val (.tup<|cD nb),.un,.un,.un,.un],⟨.inr rfl,.inr rfl,.inr rfl,.inr rfl,.inr rfl,.inr rfl,.inl rfl,.inl rfl,.inl rfl,.inr rfl,trivial⟩,a',el,es.symm,rfl⟩
 ·obtain⟨a',el,eT,rfl⟩:=hn;refine⟨a',⟨el, ?_⟩,rfl⟩;rw[eT,oV,aA]
abbrev nl2:List Str:=["moves","bound","start","waiting","known","found","rank","ready","row","numbers"]
theorem aHd{CN:BG}(zlen:mg "len"=none)(zmin:mg "min"=none)(zlist:mg "list"=none)(zsorted:mg "sorted"=none)(hmt:∃t,mg "MOST_TABLES"=some (.int 500 t))(xk:aNf K mg CN)(GP:qW P w K (wtL P w K) mg base "put_longer_rows" 2 6 aNo){cdv:BE}{A:BH}{outer:List Env}{s:BF}{H:Hp}{E:XK}(hr:Room 2 (A.deeper<|Ar "found_rows" (bD sFd) s.heap.objs.size f cdv)){ξ:BE->BF->Prop}(hξ:PassesOwn (AH P w) (A.deeper<|Ar "found_rows" (bD sFd) s.heap.objs.size f cdv) (Ar "found_rows" (bD sFd) s.heap.objs.size f cdv) ξ){p:Int×Int}{L:List SK}{b:Int}(hp:p∈bO)(S0:StkOk p L)(b3:b<=300)(tk:500<(bkF p L b).length->∀sd,uX ((jP CX0 P w K mg base nl2 "found_rows" (bD sFd) f cdv A outer s H E).wish ξ) (.ref CN) sd){Ed:iJ}(hEd:(bkF p L b).length<=500->Ed.rt (.own<|(bkF p L b).map fdD)):PSd ((jP CX0 P w K mg base nl2 "found_rows" (bD sFd) f cdv A outer s H E).wish ξ) (init 10 [.lst (L.map<|mvD p),.int b,.tup (cD<|st0 p)]) (eO sFd) Ed:=by
 obtain⟨tm,hmt⟩:=hmt;have nd:nl2.Nodup:=by decide+kernel
 have hu8:=uN hr 8;have hu4:=uN hr 4;have hu2:=uN hr 2;have hu1:=uN hr 1;have hpr:=S0.pr;have l8:=S0.le;have m8:∀ {n:Nat},n<=500->n*L.length<=4000:=λh=>cG (Nat.mul_le_mul h l8)<|by decide
 refine aH<|aEd 3 nd rfl (Or.inl rfl) λl3=> ?_;refine aLm (K:=∀ls T,(fd0 p b).T=T->PSd _ [.val<|.lst (L.map<|mvD p),.val<|.int b,.val<|.tup (cD<|st0 p),wtS P w K ⟨l3,ls,T⟩,.un,.un,.un,.un,.un,.un] _ _) (λkey=>aH (gJ (k:=decide<|0<=b) (kM aNZ (pdv 1) bX<|fR _) (λq=> ?_) λq=>cW<|key [] [] (if_neg<|of_decide_eq_false q))) λls T e0=> ?_
 ·refine aX<|aFL (ds:=[p2D<|nP ([],st0 p)]) 3 hu1 rfl (pv 3) (pdL (ds:=[p2D<|nP ([],st0 p)])<|aC (PEd.cast (pdT (ds:=[.tup<|cD [],.tup (cD<|st0 p)]) (aC (pdT (ds:=[]) aO)<|aC (pdv 2) aO))<|by rw[aNA]) aO) (λz=>nomatch z) (fB rfl) λa=> ?_;exact key [a] [((0,0),[nP ([],st0 p)])] (if_pos<|of_decide_eq_true q)
 subst e0;refine aH<|qI (hkT P w) 4 nd rfl (Or.inl rfl) λl4=> ?_;refine aH<|pK (ds:=[]) 5 (pdL (ds:=[]) aO) λl5=> ?_;refine aH<|aEo (λm sd=>∃S dn r ls,Wk p L b dn r [] S/\4001<dn.length+m/\iZ p L b m S=iZ p L b 4002 (fd0 p b)/\S.fd.length<=500/\sd=[.val<|.lst (L.map<|mvD p),.val<|.int b,.val<|.tup (cD<|st0 p),wtS P w K ⟨l3,ls,S.T⟩,oG (hkT P w) K l4 (S.kn.map gB)<|S.kn.map λ_=>.bl true,.own l5<|S.fd.map fdD,.un,.un,.un,.un]) ⟨4002,_,Le.refl _,fd0 p b,[],(0,0),ls,wk0 p L b,by simp,rfl,bP _,rfl⟩ (λm sdm hw=> ?_) (hp:=hξ);obtain⟨S,dn,r,ls,W,hU,hR,s5,rfl⟩:=hw;refine⟨decide<|(0:Int)<((wtK S.T).length:Int),kM aLn (aJW 3 rfl zlen rfl<|pv 3) bX<|fR _,λq=> ?_,λq=> ?_⟩
 ·have e:S.T=[]:=by have:=of_decide_eq_false q;unfold wtK at this;rw[aA] at this;exact cQ (by omega)
  have e2:iZ p L b m S=S:=by
   cases m with
   |zero=>rfl
   |succ m=>exact if_pos e
  have e3:bkF p L b=S.fd:=by unfold bkF;rw[<-hR,e2]
  refine aX<|lG 5 rfl (pv 5) ?_;rw[<-e3];exact hEd (by rw[e3];exact s5)
 ·have hne:S.T≠[]:=λz=>by rw[z] at q;cases q
  obtain⟨t,ht,hm,tnd,tne,W1,eT,W2⟩:=W.turn hpr hne;obtain⟨M,t',g1,g2,g3,g4,_⟩:=aLV (X:=((jP CX0 P w K mg base nl2 "found_rows" (bD sFd) f cdv A outer s H E).wish ξ)) hu4 hne;have et:t=t':=(bS.inj<|g1.symm.trans ht).symm;subst et
  have tl:t.2.length<=10000:=by have h1:=(gZ t.2).length_eq;have h2:_<=1+S.fd.length*L.length:=W1.few2;have:=m8 s5;omega
  refine aH<|iG (d:=rkD t.1) 6 (aJu rfl zmin (PEd.bor<|PEd.val (aGp 3 rfl zlist rfl<|pv 3)) M g2) ?_;refine aH<|aFv (ps:=t.2) (rk:=rkP t.2) (k:=rkK t.1) 3 7 (eX S.T) hu1 rfl zsorted rfl (pv 3) (PEd.cast (pdv 6) rfl) g3 g4 (aMA tnd tl hu8) nd rfl (Or.inl rfl) λl7 qs qp qw=>iB 7 rfl ?_;have eq:=aJX tnd qp qw;subst eq;have ek:wtK (S.T.eraseIdx<|eX S.T)=(wtK S.T).eraseIdx (eX S.T):=by unfold wtK;rw[dE,dE,aW,mJ,rZ]
  have ed:wtD (S.T.eraseIdx<|eX S.T)=(wtD S.T).eraseIdx (eX S.T):=by unfold wtD;rw[dE,dE,aW,mJ,rZ]
  have e5:odG P w K l3 ((wtK S.T).eraseIdx<|eX S.T) (ls.eraseIdx<|eX S.T) ((wtD S.T).eraseIdx<|eX S.T)=wtS P w K ⟨l3,ls.eraseIdx<|eX S.T,S.T.eraseIdx<|eX S.T⟩:=by unfold wtS;rw[ek,ed]
  refine aMS (sd':=[.val<|.lst (L.map<|mvD p),.val<|.int b,.val<|.tup (cD<|st0 p),wtS P w K ⟨l3,ls.eraseIdx<|eX S.T,({S with T:=S.T.eraseIdx (eX S.T)}:FdS).T⟩,oG (hkT P w) K l4 (({S with T:=S.T.eraseIdx (eX S.T)}:FdS).kn.map gB)<|({S with T:=S.T.eraseIdx (eX S.T)}:FdS).kn.map λ_=>.bl true,.own l5<|({S with T:=S.T.eraseIdx (eX S.T)}:FdS).fd.map fdD,.val<|rkD t.1,.val (.lst<|(gS t.2).map p2D),.un,.un]) ⟨.inr rfl,.inr rfl,.inr rfl,.inr e5,.inr rfl,.inr rfl,.inr rfl,.inr rfl,.inr rfl,.inr rfl,trivial⟩ ?_
  have hR2:∃m',m=m'+1/\iZ p L b m' (fdT p L b S)=iZ p L b 4002 (fd0 p b):=by
   cases m with
   |zero=>have:=W.few2;have:=m8 s5;omega
   |succ m'=>have e6:iZ p L b (m'+1) S=iZ p L b m' (fdT p L b S):=if_neg hne;exact⟨m',rfl,by rw[<-e6];exact hR⟩
  obtain⟨m',rfl,hR2⟩:=hR2
  have tpos:0<(gS t.2).length:=by rw[(gZ t.2).length_eq];exact gW.mpr tne
  have s51:({S with T:=S.T.eraseIdx (eX S.T)}:FdS).fd.length<=500:=s5;rw[eT] at hR2 W2;clear hR e5 ek ed g1 g2 g3 g4 M qp qw eT;generalize ({S with T:=S.T.eraseIdx (eX S.T)}:FdS)=S1 at W1 W2 hR2 s51
  have pre:∀j,(fdP p L b t.1 S1<|(gS t.2).take j).fd.length<=(bkF p L b).length:=λj=>by
   have e1:fdP p L b t.1 (fdP p L b t.1 S1<|(gS t.2).take j) ((gS t.2).drop j)=fdP p L b t.1 S1 (gS t.2):=by
    conv=>rhs;rw[<-iF j (gS t.2)]
    unfold fdP;rw[iM]
   have h1:=(zO (p:=p) (L:=L) b t.1 ((gS t.2).drop j) (fdP p L b t.1 S1<|(gS t.2).take j)).length_le;have h2:=(aDx (p:=p) (L:=L) (b:=b) m' (fdP p L b t.1 S1<|gS t.2)).length_le;rw[e1] at h1;rw[hR2] at h2;exact cG h1 h2
  generalize ls.eraseIdx (eX S.T)=ls1;refine aX<|fM (ds:=(gS t.2).map p2D) (λj sd=>∃S' ls,S'=fdP p L b t.1 S1 ((gS t.2).take j)/\S'.fd.length<=500/\sd=[.val<|.lst (L.map<|mvD p),.val<|.int b,.val<|.tup (cD<|st0 p),wtS P w K ⟨l3,ls,S'.T⟩,oG (hkT P w) K l4 (S'.kn.map gB)<|S'.kn.map λ_=>.bl true,.own l5<|S'.fd.map fdD,.val<|rkD t.1,.val (.lst<|(gS t.2).map p2D),.un,.un]) (fK<|pdv 7) ⟨_,Le.refl _,S1,ls1,rfl,s51,rfl⟩ (λj d sdj hd hj=> ?_) (λsdn hn=> ?_) (hp:=hξ)
  ·obtain⟨S',ls2,eS,f1,rfl⟩:=hj;have pj:=pre<|j+1;obtain⟨y,hy,rfl,ey⟩:=oD hd;have jl:j<(gS t.2).length:=(aD.mp hy).1;have Wj:=W1.take hpr j (by omega);have Wj1:=W1.take hpr (j+1) (by omega);rw[ey,vB,<-eS] at Wj1;rw[<-eS] at Wj;have eS1:fdP p L b t.1 S1 ((gS t.2).take<|j+1)=fdI p L b t.1 S' (unP y):=by rw[ey,vB,<-eS]
   obtain⟨row,rfl,ro,er,rb⟩:=W1.rs y<|aK hy;rw[eS1] at pj ⊢;rw[aKU] at Wj1 pj ⊢
   have rU:row.length<=300:=by
    have:=aCs (pr:=prK L) row λk hk=>hpr k<|ro k hk
    have rb:S45.prQ (prK L) row<=b:=by rw[er] at rb;exact rb
    omega
   have nbo:=(rD hp (λs hs=>(S0.st s hs).1) ro).1;have tt:=Wj.tot2;have:=m8 f1;have okj:=Wj.ok
   have kl:S'.kn.length<=500:=by rw[okj.kn,aA];exact f1
   have dy:p2D (itP p L row)=.tup [.tup<|cD row,.tup (cD<|nrQ p L row)]:=aNA _;rw[dy];clear Wj Wj1 eS1 ey hy hd eS dy;refine⟨[.val<|.lst (L.map<|mvD p),.val<|.int b,.val<|.tup (cD<|st0 p),wtS P w K ⟨l3,ls2,S'.T⟩,oG (hkT P w) K l4 (S'.kn.map gB)<|S'.kn.map λ_=>.bl true,.own l5<|S'.fd.map fdD,.val<|rkD t.1,.val (.lst<|(gS t.2).map p2D),.val (.tup<|cD row),.val<|.tup (cD<|nrQ p L row)],jX (ds:=[.tup<|cD row,.tup (cD<|nrQ p L row)]) (js:=[8,9]) rfl (dZ (pgn 8)<|dZ (pgn 9) jY) rfl rfl, ?_⟩
   have inj:decide (nrQ p L row∈S'.kn)=true↔gB (nrQ p L row)∈S'.kn.map gB:=by
    rw[decide_eq_true_iff]
    constructor
    ·exact λh=>aQ.mpr ⟨_,h,rfl⟩
    ·intro h;obtain⟨e,e1,e2⟩:=aQ.mp h;rw[<-qY e2];exact e1
   refine aLm (K:=∀S2 ls3,S2=fdI p L b t.1 S' (row,nrQ p L row)->PSd _ [.val<|.lst (L.map<|mvD p),.val<|.int b,.val<|.tup (cD<|st0 p),wtS P w K ⟨l3,ls3,S2.T⟩,oG (hkT P w) K l4 (S2.kn.map gB)<|S2.kn.map λ_=>.bl true,.own l5<|S2.fd.map fdD,.val<|rkD t.1,.val (.lst<|(gS t.2).map p2D),.val (.tup<|cD row),.val<|.tup (cD<|nrQ p L row)] _ _) (λkey=>aH (gJ (k:= !decide (nrQ p L row∈S'.kn)) (aAT (hk:=hkT P w) (k:=gB<|nrQ p L row) inj hu2 (PEd.cast (pdv 9)<|by rw[show(hkT P w).dat (gB<|nrQ p L row)=tD (gB<|nrQ p L row) from rfl,mW]) (uF 4 rfl<|pv 4)) (λq=> ?_) λq=>cW<|key S' ls2 (if_pos<|by simpa using q).symm)) λS2 ls3 e2=> ?_
   ·have nk:nrQ p L row∉S'.kn:=by simpa using q
    refine aH<|qG (hk:=hkT P w) (k:=gB<|nrQ p L row) (d:=.bl true) 4 hu2 rfl (pv 4) vR (PEd.cast (pdv 9)<|by rw[show(hkT P w).dat (gB<|nrQ p L row)=tD (gB<|nrQ p L row) from rfl,mW]) (λz=>nk (of_decide_eq_true<|inj.mpr z)) (by rw[aA];omega) ?_;refine aH<|nI (d:=fdD (t.1.1,row,nrQ p L row)) 5 rfl (pv 5) (pdT (ds:=[.int t.1.1,.tup<|cD row,.tup (cD<|nrQ p L row)])<|aC (pdx (n:=0) (d:=.int t.1.1)<|pdv 6) (aC (pdv 8)<|aC (pdv 9) aO)) (by rw[aA];omega) ?_;refine aX<|aEx (Z:=wtL P w K) (a:=⟨l3,ls2,S'.T⟩) (ds:=[.lst (L.map<|mvD p),.int b,.tup [.int t.1.1,.int t.1.2],.tup<|cD row,.tup (cD<|nrQ p L row)]) 3 rfl (pv 3) GP hr rfl (aC (pdv 0) (aC (pdv 1)<|aC (pdv 6) (aC (pdv 8)<|aC (pdv 9) aO))) ⟨p,L,b,t.1,row,nrQ p L row,hp,by omega,nbo,by omega,okj.nk,by show tot S'.T+_<=_;omega,rfl,rfl⟩ (λa' h=>h.1) rfl λa' h=> ?_;obtain⟨al,als,aT⟩:=a';obtain⟨h1,h2⟩:=h;have h1:al=l3:=h1;have h2:aT=lgQ p L b t.1 row (nrQ p L row) L.length S'.T:=h2;subst h1 h2;have k:=key ⟨lgQ p L b t.1 row (nrQ p L row) L.length S'.T,S'.kn++[nrQ p L row],S'.fd++[(t.1.1,row,nrQ p L row)]⟩ als (if_neg nk).symm;simp only[aW,bA,dL] at k;exact k
   ·rw[<-e2] at pj;refine aX (gJ (k:=decide<|(500:Int)<(((S2.fd.map fdD).length:Nat):Int)) (kM aLn (mS rfl zlen (aIy 5 rfl<|pv 5)) (aFt (i:=500) rfl hmt ⟨tm,rfl⟩)<|fR _) (λq=> ?_) λq=>cW ?_)
    ·have q:=of_decide_eq_true q;rw[aA] at q;exact aX (aEI (ds:=[.str _]) rfl xk.nw.1 xk.ex (tk (by omega) _) (aC dA aO)<|fB rfl)
    ·have q:=of_decide_eq_false q;rw[aA] at q;exact⟨[.val<|.lst (L.map<|mvD p),.val<|.int b,.val<|.tup (cD<|st0 p),wtS P w K ⟨l3,ls3,S2.T⟩,oG (hkT P w) K l4 (S2.kn.map gB)<|S2.kn.map λ_=>.bl true,.own l5<|S2.fd.map fdD,.val<|rkD t.1,.val (.lst<|(gS t.2).map p2D),.un,.un],⟨.inr rfl,.inr rfl,.inr rfl,.inr rfl,.inr rfl,.inr rfl,.inr rfl,.inr rfl,.inl rfl,.inl rfl,trivial⟩,S2,ls3,e2,by omega,rfl⟩
  ·obtain⟨S',ls3,eS,f1,rfl⟩:=hn;rw[aA,eI] at eS;subst eS;exact⟨m',[.val<|.lst (L.map<|mvD p),.val<|.int b,.val<|.tup (cD<|st0 p),wtS P w K ⟨l3,ls3,(fdP p L b t.1 S1<|gS t.2).T⟩,oG (hkT P w) K l4 ((fdP p L b t.1 S1<|gS t.2).kn.map gB)<|(fdP p L b t.1 S1<|gS t.2).kn.map λ_=>.bl true,.own l5<|(fdP p L b t.1 S1<|gS t.2).fd.map fdD,.un,.un,.un,.un],kO _,⟨.inr rfl,.inr rfl,.inr rfl,.inr rfl,.inr rfl,.inr rfl,.inl rfl,.inl rfl,.inr rfl,.inr rfl,trivial⟩,fdP p L b t.1 S1<|gS t.2,dn++(gS t.2).map rwP,t.1,ls3,W2,by rw[aN,aA];omega,hR2,f1,rfl⟩
theorem aBR{CN:BG}(F:FI K mg "found_rows" sFd)(zlen:mg "len"=none)(zmin:mg "min"=none)(zlist:mg "list"=none)(zsorted:mg "sorted"=none)(hmt:∃t,mg "MOST_TABLES"=some (.int 500 t))(xk:aNf K mg CN)(GP:qW P w K (wtL P w K) mg base "put_longer_rows" 2 6 aNo):bG P w K mg base "found_rows" 3 3 aGR/\jK P w K mg base "found_rows" 3 3 aGM (.ref CN) [] []:=by
 constructor
 ·refine cS (N:=nl2) (ps:=["moves","bound","start"]) (k:=2) F λf nd cdv A outer s H E hr ds r hl c=> ?_
  obtain⟨p,L,b,hp,S0,FU,rfl,rfl⟩:=c;exact aHd (E:=E) zlen zmin zlist zsorted hmt xk GP hr PassesOwn.never hp S0 FU.b3 (λh=>absurd FU.le<|aKz h) λ_=>rfl
 ·refine wJ (N:=nl2) (ps:=["moves","bound","start"]) (k:=2) F λf nd cdv A outer s H E hr hE ds hl c=> ?_
  obtain⟨p,L,b,hp,S0,⟨b3,g⟩,rfl⟩:=c;exact aHd (E:=E) zlen zmin zlist zsorted hmt xk GP hr PassesOwn.leaving hp S0 b3 (λ_ sd=>aBT (sd:=sd) hE) λh=>absurd h<|aKz g
theorem aCb(F:FI K mg "table_from" aCu)(ztuple:mg "tuple"=none):bG P w K mg base "table_from" 1 2 aCH:=by
 have nd2:(["number","every"]:List Str).Nodup:=by decide+kernel
 refine cS (N:=["every","numbers"]) (ps:=["every","numbers"]) (k:=0) F λf nd cdv A outer s H E hr ds r hl c=> ?_
 obtain⟨B,nb,h1,h2,rfl,rfl⟩:=c
 have ec:((cD nb).filter λ_=>true).map (λd=>match d with | .int i=>bJ (B.getD i.toNat [])|_=>.non)=(nb.map λi=>B.getD i []).map bJ:=by rw[cN.mpr λ_ _=>rfl];unfold cD;rw[bB,bB];rfl
 refine aX (kF<|kZ rfl ztuple (PEd.bor<|PEd.val (PEd.cast (jL (ds:=cD nb) (N:=["number","every"]) (M:=["every","numbers"]) (cap:=[none,some 0]) (sc:=bD aCu) (Tb:=λd=>[.val d,.val<|tL B]) (λ_=>true) (λd=>match d with | .int i=>bJ (B.getD i.toNat [])|_=>.non) (mX<|pdv 1) (by rw[xA];omega) rfl (by decide+kernel) rfl (by decide+kernel) rfl (λcl C fp s H d hd=>pgN 0) (λd hd=>⟨.inl rfl,.inr rfl,trivial⟩) (λcl C fp s H d hd=>.inl ⟨rfl,rfl⟩) λcl C2 fp s H d hd _=> ?_)<|by rw[ec])));obtain⟨i,hi,rfl⟩:=aQ.mp hd;exact jU (n:=i) (PEd.bor<|pdv 1) (pdv 0) (zC<|h2 i hi) λ_ _=>rfl
abbrev nl3:List Str:=["size","stock","bound","every","found"]
theorem aEf{CN:BG}(F:FI K mg "book_of" aIc)(zlen:mg "len"=none)(zrange:mg "range"=none)(ztuple:mg "tuple"=none)(GF:bG P w K mg base "fillings" 2 1 aCk)(GM:bG P w K mg base "moves_of" 5 2 aCr)(GR:bG P w K mg base "found_rows" 3 3 aGR/\jK P w K mg base "found_rows" 3 3 aGM (.ref CN) [] [])(GT:bG P w K mg base "table_from" 1 2 aCH):bG P w K mg base "book_of" 6 3 aLd/\jK P w K mg base "book_of" 6 3 aDb (.ref CN) [] []:=by
 have nd2:(["price","row","numbers","every"]:List Str).Nodup:=by decide+kernel
 constructor
 ·refine cS (N:=nl3) (ps:=["size","stock","bound"]) (k:=5) F λf nd cdv A outer s H E hr ds r hl c=> ?_
  obtain⟨p,L,b,hp,S,dn,FU,rfl,rfl⟩:=c;have hr2:=hr.mono (show 2<=5 by decide);have hr3:=hr.mono (show 3<=5 by decide);have f9:(bQ p).length<=64:=jB hp;have O:=aCI (p:=p) S.pr FU;have l4:=O.len;refine aH<|pK (ds:=(bQ p).map bJ) 3 (pdc (ds:=[cK p]) GF hr2 (aC (pdv 0) aO) ⟨p,hp,rfl,rfl⟩) λl5=>iB 3 rfl ?_;refine aH<|pK (ds:=(bkF p L b).map fdD) 4 (pdc (ds:=[.lst (L.map<|mvD p),.int b,tN<|st0 p]) GR.1 hr3 (aC (PEd.val<|pdc (ds:=[cK p,lK L]) GM hr (aC (pdv 0)<|aC (pdv 1) aO) ⟨p,L,hp,S,dn,rfl,rfl⟩) (aC (pdv 2)<|aC (nZ (n:=(bQ p).length) rfl ztuple rfl zrange (PEd.ic (mS rfl zlen (PEd.bor<|pdv 3))<|by rw[aA])<|by omega) aO)) ⟨p,L,b,hp,S,FU,rfl,rfl⟩) λl4=>iB 4 rfl ?_
  have ec:(((bkF p L b).map fdD).filter λ_=>true).map (λd=>enD ((unE d).1,(unE d).2.1,iH p (unE d).2.2))=(bkQ p L b).map enD:=by
   rw[cN.mpr λ_ _=>rfl,bB];unfold bkQ;rw[bB];refine bW λe _=> ?_
   show enD ((unE<|fdD e).1,(unE<|fdD e).2.1,iH p (unE<|fdD e).2.2)=_;rw[aIg];rfl
  refine aX<|cY (PEd.cast (jL (ds:=(bkF p L b).map fdD) (N:=["price","row","numbers","every"]) (M:=nl3) (cap:=[none,none,none,some 3]) (sc:=bD aIc) (Tb:=λd=>[.val<|.int (unE d).1,.val (.tup<|cD (unE d).2.1),.val (.tup<|cD (unE d).2.2),.val (tL<|bQ p)]) (λ_=>true) (λd=>enD ((unE d).1,(unE d).2.1,iH p (unE d).2.2)) (fK<|pdv 4) (by rw[aA];omega) rfl (by decide+kernel) rfl (by decide+kernel) rfl (λcl C fp s H d hd=> ?_) (λd hd=>⟨.inl rfl,.inl rfl,.inl rfl,.inr rfl,trivial⟩) (λcl C fp s H d hd=>.inl ⟨rfl,rfl⟩) λcl C2 fp s H d hd _=> ?_)<|by rw[ec]) trivial rfl
  ·obtain⟨e,he,rfl⟩:=aQ.mp hd;rw[aIg];exact jX (ds:=[.int e.1,tN e.2.1,tN e.2.2]) (js:=[0,1,2]) rfl (dZ (pgn 0) (dZ (pgn 1)<|dZ (pgn 2) jY)) rfl rfl
  ·obtain⟨e,he,rfl⟩:=aQ.mp hd;rw[aIg];obtain⟨h1,h2,h3,h4,h5⟩:=O.ent e he;have nbo:=(rD hp (λs hs=>(S.st s hs).1) h1).1;rw[<-h4] at nbo;exact pdT (ds:=[.int e.1,tN e.2.1,.tup<|(iH p e.2.2).map bJ])<|aC (pdv 0) (aC (pdv 1)<|aC (pdc (ds:=[tL<|bQ p,tN e.2.2]) GT hr (aC (pdv 3)<|aC (pdv 2) aO) ⟨bQ p,e.2.2,by rw[nbo.1];omega,nbo.2,rfl,rfl⟩) aO)
 ·refine wJ (N:=nl3) (ps:=["size","stock","bound"]) (k:=5) F λf nd cdv A outer s H E hr hE ds hl c=> ?_
  obtain⟨p,L,b,hp,S,dn,g,rfl⟩:=c;have hr2:=hr.mono (show 2<=5 by decide);have hr3:=hr.mono (show 3<=5 by decide);have f9:(bQ p).length<=64:=jB hp;refine aH<|pK (ds:=(bQ p).map bJ) 3 (pdc (ds:=[cK p]) GF hr2 (aC (pdv 0) aO) ⟨p,hp,rfl,rfl⟩) λl5=>iB 3 rfl ?_;exact aH<|aAO 4 nd rfl (Or.inl rfl) (aCV (ds:=[.lst (L.map<|mvD p),.int b,tN<|st0 p]) (dds:=[]) GR.2 rfl hr3 rfl (aC (PEd.val<|pdc (ds:=[cK p,lK L]) GM hr (aC (pdv 0)<|aC (pdv 1) aO) ⟨p,L,hp,S,dn,rfl,rfl⟩) (aC (pdv 2)<|aC (nZ (n:=(bQ p).length) rfl ztuple rfl zrange (PEd.ic (mS rfl zlen (PEd.bor<|pdv 3))<|by rw[aA])<|by omega) aO)) (λ_=>RepL.nil) ⟨p,L,b,hp,S,g,rfl⟩ rfl<|xS hE)
abbrev nl4:List Str:=["number","stock"]
theorem aGn(F:FI K mg "is_row" zG)(zall:mg "all"=none)(zlen:mg "len"=none)(GW:bG P w K mg base "is_whole" 1 1 aGK):bG P w K mg base "is_row" 2 2 aHh:=by
 refine cS (N:=["stock","numbers"]) (ps:=["stock","numbers"]) (k:=1) F λf nd cdv A outer s H E hr ds r hl c=> ?_
 obtain⟨L,row,hrow,hl9,rfl,rfl⟩:=c;have nd2:nl4.Nodup:=by decide+kernel
 refine aX<|cY (PEd.cast (aJU (bs:=row.map λ_=>true) rfl zall<|PEd.bor (PEd.val<|PEd.cast (pdC (ds:=cD row) (N:=nl4) (M:=["stock","numbers"]) (cap:=[none,some 0]) (sc:=bD zG) (Tb:=λd=>[.val d,.val<|lK L]) (λ_=>true) (λ_=>.bl true) (mX<|pdv 1) (by unfold cD;rw[aA];omega) (λcl C fp s H d hd=>.inl ⟨rfl,rfl⟩) λcl C fp s H d hd _=> ?_) ?_)) ?_) trivial rfl
 ·obtain⟨t,ht,rfl⟩:=aQ.mp hd;have hn:=hrow t ht;refine PEd.cast (mP (k:=true) (j:=true) (pdc (ds:=[.int (t:Int)]) (r:=.val<|.bl true) GW hr (aC (pdv 0) aO) ⟨_,rfl,(λ_=>by simp),rfl⟩) λ_=>oH<|PEd.cast (aDQ (g:=λi j=>decide<|i<=j) (g':=λi j=>decide<|i<j) wC wR bX (pdv 0) (PEd.ic (mS rfl zlen (PEd.bor<|pdv 1))<|by rw[aA])) ?_) rfl;have h1:decide ((0:Int)<=(t:Int))=true:=decide_eq_true (by omega);have h2:decide ((t:Int)<(L.length:Int))=true:=decide_eq_true (by omega);rw[h1,h2];rfl
 ·rw[cN.mpr λ_ _=>rfl];unfold cD;rw[bB,bB];rfl
 ·congr 2;rw[cR];intro x hx;obtain⟨_,_,rfl⟩:=aQ.mp hx;rfl
theorem aFM(F:FI K mg "price_of" aCA)(zsum:mg "sum"=none):bG P w K mg base "price_of" 1 2 aHA:=by
 refine cS (N:=["stock","row"]) (ps:=["stock","row"]) (k:=0) F λf nd cdv A outer s H E hr ds r hl c=> ?_
 obtain⟨L,row,hrow,hl2,rfl,rfl⟩:=c;have nd2:nl4.Nodup:=by decide+kernel
 have ec:((cD row).filter λ_=>true).map (λd=>match d with | .int t=>D.int (L.getD t.toNat AN).2|_=>.non)=(aHP L row).map D.int:=by
  rw[cN.mpr λ_ _=>rfl];unfold cD aHP;rw[bB,bB];refine bW λt _=> ?_
  simp
 refine aX (kF<|aJw (ns:=aHP L row) rfl zsum (PEd.bor<|PEd.val (PEd.cast (pdC (ds:=cD row) (N:=nl4) (M:=["stock","row"]) (cap:=[none,some 0]) (sc:=bD aCA) (Tb:=λd=>[.val d,.val<|lK L]) (λ_=>true) (λd=>match d with | .int t=>D.int (L.getD t.toNat AN).2|_=>.non) (mX<|pdv 1) (by rw[show(cD row).length=row.length from aA _];omega) (λcl C fp s H d hd=>.inl ⟨rfl,rfl⟩) λcl C fp s H d hd _=> ?_)<|by rw[ec])));obtain⟨t,ht,rfl⟩:=aQ.mp hd;have hn:=hrow t ht;exact pdx (n:=1) (ds:=[sqD (L.getD t AN).1,.int (L.getD t AN).2])<|jU (n:=t) (PEd.bor<|pdv 1) (pdv 0) (aGT hn) λ_ _=>rfl
theorem aEV(F:FI K mg "numbers_of_row" aKN)(GB:bG P w K mg base "numbers_behind" 1 2 aFj):bG P w K mg base "numbers_of_row" 2 3 aLt:=by
 refine cS (N:=["moves","row","start","numbers","place"]) (ps:=["moves","row","start"]) (k:=1) F λf nd cdv A outer s H E hr ds r hl c=> ?_
 obtain⟨p,L,row,hp,S,R,rfl,rfl⟩:=c;have f9:(bQ p).length<=64:=jB hp;have S':∀s∈L,pZ p s.1:=λs hs=>(S.st s hs).1
 refine aH<|iG (d:=tN<|st0 p) 3 (pdv 2) ?_;refine aH<|fM (ds:=cD row) (λt sd=>sd=[.val<|.lst (L.map<|mvD p),.val<|tN row,.val (tN<|st0 p),.val<|tN (nrQ p L<|row.take t),.un]) (mX<|pdv 1) ⟨_,Le.refl _,rfl⟩ (λt d sdt hd ht=> ?_) λsdn hn=> ?_
 ·obtain⟨t2,rfl⟩:=aIK hd;subst ht;have km:row.getD t 0∈row:=getD_mem t2;have kl:=R _ km;have N0:=(rD hp S' (row:=row.take t) λj hj=>R j<|gN hj).1;refine⟨[.val<|.lst (L.map<|mvD p),.val<|tN row,.val (tN<|st0 p),.val<|tN (nrQ p L<|row.take t),.val<|.int ((row.getD t 0:Nat):Int)],pgN 4, ?_⟩
  have et:nrQ p L (row.take<|t+1)=fH (fS p (L.getD (row.getD t 0) AN).1) (nrQ p L<|row.take t):=by rw[yI 0 t2,uD]
  have em:∀k,k<L.length->(L.map<|mvD p)[k]? =some (mvD p<|L.getD k AN):=λk hk=>by
   have e:L[k]? =some (L.getD k AN):=by simp[cB,hk]
   rw[aS,e];rfl
  have em:=em _ kl;rw[et];generalize row.getD t 0=k at kl em;generalize nrQ p L (row.take t)=nb at N0;exact aX (iG (d:=tN<|fH (fS p (L.getD k AN).1) nb) 3 (pdc (ds:=[tN nb,tN<|fS p (L.getD k AN).1]) GB hr (aC (pdv 3)<|aC (pdx (n:=1) (ds:=[.int (L.getD k AN).2,tN<|fS p (L.getD k AN).1])<|jU (n:=k) (PEd.bor<|pdv 0) (pdv 4) em λ_ _=>rfl) aO) ⟨nb,_,by rw[N0.1];omega,λi hi=>by rw[aAj];exact N0.2 i hi,rfl,rfl⟩)<|nxt (b:=[.val<|.lst (L.map<|mvD p),.val<|tN row,.val (tN<|st0 p),.val (tN<|fH (fS p (L.getD k AN).1) nb),.un]) rfl)
 ·subst hn;rw[xA,eI];exact aX (kF<|pdv 3)
theorem aEC(F:FI K mg "is_priced_row" aLc)(GR:bG P w K mg base "is_row" 2 2 aHh)(GP:bG P w K mg base "price_of" 1 2 aHA):bG P w K mg base "is_priced_row" 3 4 aLv:=by
 refine cS (N:=["stock","bound","price","row"]) (ps:=["stock","bound","price","row"]) (k:=2) F λf nd cdv A outer s H E hr ds r hl c=> ?_
 obtain⟨p,L,b,B,e,S,O,he,rfl,rfl⟩:=c;obtain⟨h1,h2,h3,h4,h5⟩:=O.ent e he;exact aX<|cY (PEd.cast (mP (k:=true) (j:=true) (pdc (ds:=[lK L,tN e.2.1]) (r:=.val<|.bl true) GR hr (aC (pdv 0)<|aC (pdv 3) aO) ⟨L,e.2.1,h3,by omega,rfl,rfl⟩) λ_=>PEd.cast (mP (k:=true) (j:=true) (PEd.cast (aCL (i:=e.1) (j:=e.1) (pdv 2) (PEd.ic (pdc (ds:=[lK L,tN e.2.1]) (r:=.val<|.int (aHT<|aHP L e.2.1)) GP hr (aC (pdv 0)<|aC (pdv 3) aO) ⟨L,e.2.1,h3,by omega,rfl,rfl⟩)<|by rw[aMk,<-h1]))<|by rw[decide_eq_true rfl]) λ_=>oH (PEd.cast (aId (g:=λi j=>decide<|i<=j) wC (pdv 2) (pdv 1)<|fR _)<|by rw[decide_eq_true h2])) rfl) rfl) trivial rfl
theorem aAt(F:FI K mg "stands_there" aOT):bG P w K mg base "stands_there" 1 3 (aCZ P w K):=by
 refine cS (N:=["prices","numbers","most"]) (ps:=["prices","numbers","most"]) (k:=0) F λf nd cdv A outer s H E hr ds r hl c=> ?_
 obtain⟨p,L,b,B,nb,m,hp,S,O,rfl,rfl⟩:=c;have hu:=uN hr 2
 by_cases q:gB nb∈ksB p L B
 ·obtain⟨e,he,en⟩:=aQ.mp q;have en:=qY en;obtain⟨i,hi⟩:=cX he
  have sq:qS p L B nb m=decide (e.1<=m):=by
   unfold qS
   by_cases z:e.1<=m
   ·rw[decide_eq_true z];exact fC.mpr ⟨e,he,by rw[decide_eq_true en,decide_eq_true z];rfl⟩
   ·rw[decide_eq_false z];refine iN.mpr λh=> ?_
    obtain⟨x,x1,x2⟩:=fC.mp h;rw[bC] at x2;have:=O.inj hp S x1 he<|(of_decide_eq_true x2.1).trans en.symm;subst this;exact z<|of_decide_eq_true x2.2
  rw[sq];exact aX<|cY (PEd.cast (mP (k:=true) (j:=decide<|e.1<=m) (aHD (kk:=true) (hk:=hkT P w) (k:=gB nb) ⟨λ_=>q,λ_=>rfl⟩ hu (PEd.cast (pdv 1)<|by rw[show(hkT P w).dat (gB nb)=tD (gB nb) from rfl,mW]) (rH<|pdv 0)) λ_=>oH (aId (g:=λi j=>decide<|i<=j) wC (zK (hk:=hkT P w) (k:=gB nb) (n:=i) (d:=.int e.1) hu (rH<|pdv 0) (PEd.cast (pdv 1)<|by rw[show(hkT P w).dat (gB nb)=tD (gB nb) from rfl,mW]) (by unfold ksB;rw[aS,hi,<-en];rfl) (by rw[aS,hi];rfl) λ_ _=>rfl) (pdv 2)<|fR _))<|by rw[aBu]) trivial rfl
 ·have sq:qS p L B nb m=false:=by
   unfold qS;refine iN.mpr λh=> ?_
   obtain⟨x,x1,x2⟩:=fC.mp h;rw[bC] at x2;exact q<|aQ.mpr ⟨x,x1,by rw[of_decide_eq_true x2.1]⟩
  rw[sq];exact aX<|cY (PEd.cast (mP (k:=false) (j:=false) (aHD (kk:=false) (hk:=hkT P w) (k:=gB nb) ⟨λz=>(by cases z),λz=>absurd z q⟩ hu (PEd.cast (pdv 1)<|by rw[show(hkT P w).dat (gB nb)=tD (gB nb) from rfl,mW]) (rH<|pdv 0)) λh=>by cases h) rfl) trivial rfl
theorem aCc(F:FI K mg "has_start" aCt)(zany:mg "any"=none):bG P w K mg base "has_start" 1 2 aHH:=by
 have nd2:(["price","row","table"]:List Str).Nodup:=by decide+kernel
 refine cS (N:=["bound","book"]) (ps:=["bound","book"]) (k:=0) F λf nd cdv A outer s H E hr ds r hl c=> ?_
 obtain⟨p,L,b,B,O,hb,rfl,rfl⟩:=c;have hu:=uN hr 4
 have ec:((B.map enD).filter λ_=>true).map (λd=>match d with | .tup [_,.tup rs,_]=>D.bl rs.isEmpty|_=>.bl false)=(B.map λe=>decide<|e.2.1=[]).map D.bl:=by
  rw[cN.mpr λ_ _=>rfl,bB,bB];refine bW λe _=> ?_
  show D.bl (cD e.2.1).isEmpty=D.bl (decide<|e.2.1=[]);cases e.2.1<;>rfl
 have ea:((B.map λe=>decide<|e.2.1=[]).any id)=B.any λe=>decide (e.2.1=[]):=by rw[List.any_map];rfl
 refine aX<|cY (PEd.cast (aOd (k:=decide<|b<0) (j:=(B.map λ(e:Bk)=>decide<|e.2.1=[]).any id) (aId (g:=λi j=>decide<|i<j) wR (pdv 0) bX<|fR _) λ_=>oH<|aIA (bs:=B.map λ(e:Bk)=>decide<|e.2.1=[]) rfl zany (PEd.bor<|PEd.val (PEd.cast (jL (ds:=B.map enD) (N:=["price","row","table"]) (M:=["bound","book"]) (cap:=[none,none,none]) (sc:=bD aCt) (Tb:=λd=>match d with | .tup [a,r,t]=>[.val a,.val r,.val t] | _=>[.un,.un,.un]) (λ_=>true) (λd=>match d with | .tup [_,.tup rs,_]=>D.bl rs.isEmpty|_=>.bl false) (fK<|pdv 1) (by rw[aA];have:=O.len;omega) rfl (by decide+kernel) rfl (by decide+kernel) rfl (λcl C fp s H d hd=> ?_) (λd hd=> ?_) (λcl C fp s H d hd=>.inl ⟨rfl,rfl⟩) λcl C2 fp s H d hd _=> ?_)<|by rw[ec])))<|by rw[decide_eq_false<|by omega,aBt,ea]) trivial rfl
 ·obtain⟨e,_,rfl⟩:=aQ.mp hd;exact jX (ds:=[.int e.1,tN e.2.1,.tup<|e.2.2.map bJ]) (js:=[0,1,2]) rfl (dZ (pgn 0) (dZ (pgn 1)<|dZ (pgn 2) jY)) rfl rfl
 ·obtain⟨e,_,rfl⟩:=aQ.mp hd;exact⟨.inl rfl,.inl rfl,.inl rfl,trivial⟩
 ·obtain⟨e,_,rfl⟩:=aQ.mp hd;refine PEd.cast (aHp (ra:=.val<|tN e.2.1) (rb:=.val<|.tup []) (pdv 1) (pdT (ds:=[]) aO) trivial trivial (.inl ⟨rfl,rfl⟩) ?_ rfl ?_) ?_
  ·exact(oJ e.2.1).1
  ·exact aKV hu (by show iQ (cD e.2.1)+1+1<=4;rw[(oJ e.2.1).2];decide)
  ·show DL.R.val (.bl<|lJ (cD e.2.1) [])=DL.R.val (.bl (cD e.2.1).isEmpty);cases e.2.1<;>rfl
theorem aFB(F:FI K mg "prices_by_numbers" aOA)(zlen:mg "len"=none)(zrange:mg "range"=none)(ztuple:mg "tuple"=none)(GF:bG P w K mg base "fillings" 2 1 aCk)(GI:bG P w K mg base "is_priced_row" 3 4 aLv)(GR:bG P w K mg base "numbers_of_row" 2 3 aLt)(GT:bG P w K mg base "table_from" 1 2 aCH):bG P w K mg base "prices_by_numbers" 4 5 (aOB P w K):=by
 refine cS (N:=["size","stock","moves","bound","book","every","prices","price","row","table","numbers"]) (ps:=["size","stock","moves","bound","book"]) (k:=3) F λf nd cdv A outer s H E hr ds r hl c=> ?_
 obtain⟨p,L,b,B,hp,S,O,rfl,rfl⟩:=c;have hu:=uN hr 5;have f9:(bQ p).length<=64:=jB hp;have l7:=O.len;refine aH<|pK (ds:=(bQ p).map bJ) 5 (pdc (ds:=[cK p]) GF hr (aC (pdv 0) aO) ⟨p,hp,rfl,rfl⟩) λl5=>iB 5 rfl ?_;refine aH<|qI (hkT P w) 6 nd rfl (Or.inl rfl) λl6=> ?_;refine aH<|fM (ds:=B.map enD) (λt sd=>sd=[.val<|cK p,.val<|lK L,.val<|.lst (L.map<|mvD p),.val<|.int b,.val (.lst<|B.map enD),.val (tL<|bQ p),oG (hkT P w) K l6 (ksB p L<|B.take t)<|(B.take t).map λe=>.int e.1,.un,.un,.un,.un]) (fK<|pdv 4) ⟨_,Le.refl _,rfl⟩ (λt d sdt hd ht=> ?_) λsdn hn=> ?_
 ·have tl:t<B.length:=by have:=(aD.mp hd).1;rw[aA] at this;exact this
  obtain⟨e,he⟩:∃e,B[t]? =some e:=⟨B[t],by simp[tl]⟩
  have ed:d=enD e:=by rw[aS,he] at hd;exact(bS.inj hd).symm
  subst ed ht;have em:=aK he;obtain⟨h1,h2,h3,h4,h5⟩:=O.ent e em;obtain⟨n1,n2⟩:=O.nr hp S em
  have et:B.take (t+1)=B.take t++[e]:=by rw[eM,he];rfl
  have nk:gB (nrQ p L e.2.1)∉ksB p L (B.take t):=λz=>by
   obtain⟨x,x1,x2⟩:=aQ.mp z;have:=O.inj hp S (gN x1) em<|qY x2;subst this;obtain⟨i,hi,ex⟩:=cI x1;have il:i<t:=by rw[cH] at hi;omega
   rw[tO] at ex;obtain⟨t1,et2⟩:=aD.mp he;have:i=t:=(dR (i:=i) (j:=t) (h₀:=by rw[aA];omega) (h₁:=by rw[aA];exact t1) O.nd).mp (by rw[cJ,cJ,ex,et2]);omega
  have tk:((B.take t).map λe=>D.int e.1).length<=10000:=by rw[aA,cH];omega
  have e1:ksB p L (B.take<|t+1)=ksB p L (B.take t)++[gB<|nrQ p L e.2.1]:=by rw[et];unfold ksB;rw[aW];rfl
  have e2:((B.take<|t+1).map λe=>D.int e.1)=((B.take t).map λe=>D.int e.1)++[.int e.1]:=by rw[et,aW];rfl
  rw[e1,e2];generalize ksB p L (B.take t)=ks at nk;generalize (B.take t).map (λe=>D.int e.1)=vs at tk;refine⟨[.val<|cK p,.val<|lK L,.val<|.lst (L.map<|mvD p),.val<|.int b,.val (.lst<|B.map enD),.val (tL<|bQ p),oG (hkT P w) K l6 ks vs,.val<|.int e.1,.val<|tN e.2.1,.val (.tup<|e.2.2.map bJ),.un],jX (ds:=[.int e.1,tN e.2.1,.tup<|e.2.2.map bJ]) (js:=[7,8,9]) rfl (dZ (pgn 7) (dZ (pgn 8)<|dZ (pgn 9) jY)) rfl rfl, ?_⟩;refine aKn (nG (k:=true) (lQ<|pdc (ds:=[lK L,.int b,.int e.1,tN e.2.1]) (r:=.val<|.bl true) GI hr (aC (pdv 1)<|aC (pdv 3) (aC (pdv 7)<|aC (pdv 8) aO)) ⟨p,L,b,B,e,S,O,em,rfl,rfl⟩)) ?_;refine aH<|iG (d:=tN<|nrQ p L e.2.1) 10 (pdc (ds:=[.lst (L.map<|mvD p),tN e.2.1,tN<|st0 p]) GR hr (aC (pdv 2) (aC (pdv 8)<|aC (nZ (n:=(bQ p).length) rfl ztuple rfl zrange (PEd.ic (mS rfl zlen (PEd.bor<|pdv 5))<|by rw[aA])<|by omega) aO)) ⟨p,L,e.2.1,hp,S,h3,rfl,rfl⟩) ?_;have etab:(nrQ p L e.2.1).map (λi=>(bQ p).getD i [])=e.2.2:=n2;have pT:plL (e.2.2.map bJ)=true:=rQ e.2.2;have dT:iQ (e.2.2.map bJ)<=1:=oZ e.2.2;have pT2:pl (.tup<|e.2.2.map bJ)=true:=pT;refine aKn (PWd.pt<|mM (k:=false) (j:=false) (aKb (kk:=false) (hk:=hkT P w) (k:=gB<|nrQ p L e.2.1) ⟨λz=>(by cases z),λz=>absurd z nk⟩ (by show(A.deeper _).units+2<AO;omega) (PEd.cast (pdv 10)<|by rw[show(hkT P w).dat (gB<|nrQ p L e.2.1)=tD (gB<|nrQ p L e.2.1) from rfl,mW]) (uF 6 rfl<|pv 6)) λ_=>mO (PTd.cast (aDB (ra:=.val (.tup<|e.2.2.map bJ)) (rb:=.val (.tup<|e.2.2.map bJ)) (pdv 9) (PEd.cast (pdc (ds:=[tL<|bQ p,tN<|nrQ p L e.2.1]) GT hr (aC (pdv 5)<|aC (pdv 10) aO) ⟨bQ p,nrQ p L e.2.1,by rw[n1.1];omega,n1.2,rfl,rfl⟩)<|by rw[etab]) trivial trivial (.inl ⟨rfl,rfl⟩) pT2 pT2 (aKV hu<|by show iQ _+1+1<=5;omega))<|by show(!deq (.tup _) (.tup _))=false;rw[oB _ pT2];rfl)) ?_;exact aX (qG (hk:=hkT P w) (k:=gB<|nrQ p L e.2.1) (d:=.int e.1) 6 (by show(A.deeper _).units+2<AO;omega) rfl (pv 6) (pdv 7) (PEd.cast (pdv 10)<|by rw[show(hkT P w).dat (gB<|nrQ p L e.2.1)=tD (gB<|nrQ p L e.2.1) from rfl,mW]) nk tk<|nxt (b:=[.val<|cK p,.val<|lK L,.val<|.lst (L.map<|mvD p),.val<|.int b,.val (.lst<|B.map enD),.val (tL<|bQ p),oG (hkT P w) K l6 (ks++[gB<|nrQ p L e.2.1])<|vs++[.int e.1],.un,.un,.un,.un]) rfl)
 ·subst hn;rw[aA,eI];refine aAL 6 rfl ?_;exact aX (kF<|pdv 6)
theorem aAu(F:FI K mg "is_closed" aOv)(GB:bG P w K mg base "numbers_behind" 1 2 aFj)(GS:bG P w K mg base "stands_there" 1 3 (aCZ P w K)):bG P w K mg base "is_closed" 2 3 (aDj P w K):=by
 refine cS (N:=["moves","bound","prices","numbers","more","move","price"]) (ps:=["moves","bound","prices"]) (k:=1) F λf nd cdv A outer s H E hr ds r hl c=> ?_
 obtain⟨p,L,b,B,hp,S,O,rfl,rfl⟩:=c;have hu:=uN hr 2;have f9:(bQ p).length<=64:=jB hp;obtain⟨good,hgood⟩:∃good:Bk->Nat->Bool,good=λe k=> !decide (e.1+prK L k<=b)||qS p L B (fH (fS p (L.getD k AN).1)<|nrQ p L e.2.1) (e.1+prK L k):=⟨_,rfl⟩
 have ecl:aGD p L b B=B.all λe=>(bM L.length).all λk=>good e k:=by rw[hgood];rfl
 have kl:((ksB p L B).map (hkT P w).dat).length=B.length:=by unfold ksB;rw[aA,aA]
 refine aH<|fM (ds:=(ksB p L B).map (hkT P w).dat) (λt sd=>(∀i e,i<t->B[i]? =some e->∀k,k<L.length->good e k=true)/\sd=[.val<|.lst (L.map<|mvD p),.val<|.int b,.val<|pcD P w K p L B,.un,.un,.un,.un]) (aEe<|pdv 2) ⟨_,Le.refl _,λi e hi=>by omega,rfl⟩ (λt d sdt hd ht=> ?_) λsdn hn=> ?_
 ·obtain⟨hn,rfl⟩:=ht
  have tl:t<B.length:=by have:=(aD.mp hd).1;rw[kl] at this;exact this
  obtain⟨e,he⟩:∃e,B[t]? =some e:=⟨B[t],by simp[tl]⟩;have em:=aK he
  have ek:(ksB p L B)[t]? =some (gB<|nrQ p L e.2.1):=by unfold ksB;rw[aS,he];rfl
  have ed:d=tN (nrQ p L e.2.1):=by rw[aS,ek] at hd;show d=D.tup (cD _);rw[<-mW];exact(bS.inj hd).symm
  subst ed;obtain⟨n1,n2⟩:=O.nr hp S em;refine⟨[.val<|.lst (L.map<|mvD p),.val<|.int b,.val<|pcD P w K p L B,.val (tN<|nrQ p L e.2.1),.un,.un,.un],pgN 3, ?_⟩;refine aX<|fM (ds:=L.map<|mvD p) (λj sd=>(∀k,k<j->good e k=true)/\sd=[.val<|.lst (L.map<|mvD p),.val<|.int b,.val<|pcD P w K p L B,.val (tN<|nrQ p L e.2.1),.un,.un,.un]) (fK<|pdv 0) ⟨_,Le.refl _,λk hk=>by omega,rfl⟩ (λj d sdj hd hj=> ?_) λsdn hn2=> ?_
  ·obtain⟨hn2,rfl⟩:=hj
   have jl:j<L.length:=by have:=(aD.mp hd).1;rw[aA] at this;exact this
   have ej:L[j]? =some (L.getD j AN):=by simp[cB,jl]
   have ed:d=mvD p (L.getD j AN):=by rw[aS,ej] at hd;exact(bS.inj hd).symm
   subst ed;have gj:good e j=(!decide (e.1+(L.getD j AN).2<=b)||qS p L B (fH (fS p (L.getD j AN).1)<|nrQ p L e.2.1) (e.1+(L.getD j AN).2)):=by rw[hgood];rfl
   generalize L.getD j AN=sk at gj;refine⟨[.val<|.lst (L.map<|mvD p),.val<|.int b,.val<|pcD P w K p L B,.val (tN<|nrQ p L e.2.1),.val<|.int sk.2,.val (tN<|fS p sk.1),.un],jX (ds:=[.int sk.2,tN<|fS p sk.1]) (js:=[4,5]) rfl (dZ (pgn 4)<|dZ (pgn 5) jY) rfl rfl, ?_⟩;refine aH<|iG (d:=.int<|e.1+sk.2) 6 (gF iI (zK (hk:=hkT P w) (k:=gB<|nrQ p L e.2.1) (n:=t) (d:=.int e.1) hu (rH<|pdv 2) (PEd.cast (pdv 3)<|by rw[show(hkT P w).dat (gB<|nrQ p L e.2.1)=tD (gB<|nrQ p L e.2.1) from rfl,mW]) ek (by rw[aS,he];rfl) λ_ _=>rfl)<|pdv 4) ?_;refine aX<|gJ (k:=decide (e.1+sk.2<=b)&&!qS p L B (fH (fS p sk.1)<|nrQ p L e.2.1) (e.1+sk.2)) (PWd.pt (kS (k:=decide<|e.1+sk.2<=b) (j:= !qS p L B (fH (fS p sk.1)<|nrQ p L e.2.1) (e.1+sk.2)) (kM (g:=λi j=>decide<|i<=j) wC (pdv 6) (pdv 1)<|fR _) λ_=>lB<|nG (lQ<|pdc (ds:=[pcD P w K p L B,tN (fH (fS p sk.1)<|nrQ p L e.2.1),.int<|e.1+sk.2]) (r:=.val<|.bl (qS p L B (fH (fS p sk.1)<|nrQ p L e.2.1)<|e.1+sk.2)) GS hr (aC (pdv 2) (aC (pdc (ds:=[tN<|nrQ p L e.2.1,tN<|fS p sk.1]) GB hr (aC (pdv 3)<|aC (pdv 5) aO) ⟨nrQ p L e.2.1,fS p sk.1,by rw[n1.1];omega,λi hi=>by rw[aAj];exact n1.2 i hi,rfl,rfl⟩)<|aC (pdv 6) aO)) ⟨p,L,b,B,_,_,hp,S,O,rfl,rfl⟩))) (λh=> ?_) λh=>cW ?_
   ·refine aX (cY vR trivial ?_)
    have:aGD p L b B=false:=by
     rw[ecl];refine iN.mpr λz=> ?_
     have:=cR.mp (cR.mp z e em) j<|cE.mpr jl;rw[gj] at this;rw[bC] at h;rw[h.1] at this;have h2:=h.2;simp at this h2;rw[this] at h2;cases h2
    show DL.R.val _=DL.R.val _;rw[this]
   ·refine⟨[.val<|.lst (L.map<|mvD p),.val<|.int b,.val<|pcD P w K p L B,.val (tN<|nrQ p L e.2.1),.un,.un,.un],⟨.inr rfl,.inr rfl,.inr rfl,.inr rfl,.inl rfl,.inl rfl,.inl rfl,trivial⟩,λk hk=> ?_,rfl⟩
    by_cases q:k<j
    ·exact hn2 k q
    ·have:k=j:=by omega
     subst this;rw[gj];cases z1:decide (e.1+sk.2<=b) with
     |false=>rfl
     |true=>
      rw[z1] at h;cases z2:qS p L B (fH (fS p sk.1)<|nrQ p L e.2.1) (e.1+sk.2) with
      |true=>rfl
      |false=>rw[z2] at h;cases h
  ·obtain⟨hn2,rfl⟩:=hn2;rw[aA] at hn2;refine⟨[.val<|.lst (L.map<|mvD p),.val<|.int b,.val<|pcD P w K p L B,.un,.un,.un,.un],⟨.inr rfl,.inr rfl,.inr rfl,.inl rfl,.inr rfl,.inr rfl,.inr rfl,trivial⟩,λi x hi hx k hk=> ?_,rfl⟩
   by_cases q:i<t
   ·exact hn i x q hx k hk
   ·have:i=t:=by omega
    subst this;rw[he] at hx;cases hx;exact hn2 k hk
 ·obtain⟨hn,rfl⟩:=hn;rw[kl] at hn;refine aX (cY vR trivial ?_)
  have:aGD p L b B=true:=by
   rw[ecl];refine cR.mpr λe he=>cR.mpr λk hk=> ?_
   obtain⟨i,hi⟩:=cX he;exact hn i e (aD.mp hi).1 hi k<|cE.mp hk
  show DL.R.val _=DL.R.val _;rw[this]
abbrev nl5:List Str:=["size","stock","bound","book","moves","prices"]
theorem aBK(F:FI K mg "holds" aCB)(GM:bG P w K mg base "moves_of" 5 2 aCr)(GP:bG P w K mg base "prices_by_numbers" 4 5 (aOB P w K))(GS:bG P w K mg base "has_start" 1 2 aHH)(GC:bG P w K mg base "is_closed" 2 3 (aDj P w K)):bG P w K mg base "holds" 6 4 aHF:=by
 refine cS (N:=nl5) (ps:=["size","stock","bound","book"]) (k:=5) F λf nd cdv A outer s H E hr ds r hl c=> ?_
 obtain⟨p,L,b,B,hp,S,dn,O,h0,rfl,rfl⟩:=c;refine aH<|pK (ds:=L.map<|mvD p) 4 (pdc (ds:=[cK p,lK L]) GM hr (aC (pdv 0)<|aC (pdv 1) aO) ⟨p,L,hp,S,dn,rfl,rfl⟩) λl4=>iB 4 rfl ?_;refine aH<|iG (d:=pcD P w K p L B) 5 (pdc (ds:=[cK p,lK L,.lst (L.map<|mvD p),.int b,.lst<|B.map enD]) GP hr (aC (pdv 0) (aC (pdv 1)<|aC (pdv 4) (aC (pdv 2)<|aC (pdv 3) aO))) ⟨p,L,b,B,hp,S,O,rfl,rfl⟩) ?_;have st:∀ {sd:List Slot}{p1 p2 p3 p4:Pos},sd[2]? =some (.val<|.int b)->sd[3]? =some (.val (.lst<|B.map enD))->PEd (jP CX0 P w K mg base nl5 "holds" (bD aCB) f cdv A outer s H E).nox sd (.Call (.Name "has_start" p1) [.Name "bound" p2, .Name "book" p3] [] p4) (.val<|.bl (B.any λe=>decide<|e.2.1=[])):=λq2 q3=>pdc (ds:=[.int b,.lst<|B.map enD]) GS hr (aC (kJ 2 q2<|pv 2)<|aC (kJ 3 q3<|pv 3) aO) ⟨p,L,b,B,O,h0,rfl,rfl⟩
 cases q:B.any λe=>decide (e.2.1=[]) with
 |false=>rw[q] at st;refine aH (gJ (k:=true) (PWd.pt (mM (k:=false) (j:=true) (PTd.cast (uE (d:=pcD P w K p L B) (pdv 5) lE) rfl) λ_=>mO<|nG (k:=false) (lQ<|st rfl rfl))) (λ_=> ?_) λh=>by cases h);exact aX<|kF vR
 |true=>rw[q] at st;refine aKn (PWd.pt (mM (k:=false) (j:=false) (PTd.cast (uE (d:=pcD P w K p L B) (pdv 5) lE) rfl) λ_=>mO<|nG (k:=true) (lQ<|st rfl rfl))) ?_;exact aX (kF<|pdc (ds:=[.lst (L.map<|mvD p),.int b,pcD P w K p L B]) GC hr (aC (pdv 4) (aC (pdv 2)<|aC (pdv 5) aO)) ⟨p,L,b,B,hp,S,O,rfl,rfl⟩)
abbrev nl6:List Str:=["size","wish","table"]
theorem aDU(F:FI K mg "misses_at" aLi)(zenumerate:mg "enumerate"=none)(GF:bG P w K mg base "fillings" 2 1 aCk):bG P w K mg base "misses_at" 3 3 aKP:=by
 refine cS (N:=["size","wish","table","number","filling"]) (ps:=nl6) (k:=2) F λf nd cdv A outer s H E hr ds r hl c=> ?_
 obtain⟨p,w,T,hp,W,OT,rfl,rfl⟩:=c;have hu:=uN hr 4;refine aH<|fM (ds:=tJ<|(bQ p).map bJ) (λk sd=>(∀j,j<k->aKr w T j=false)/\sd=[.val<|cK p,.val (.lst<|w.map wsD),.val (.tup<|T.map bJ),.un,.un]) (aAK rfl zenumerate (PEd.val<|pdc (ds:=[cK p]) GF hr (aC (pdv 0) aO) ⟨p,hp,rfl,rfl⟩)) ⟨_,Le.refl _,λj hj=>by omega,rfl⟩ (λk d sdk hd hk=> ?_) λsdn hn=> ?_
 ·obtain⟨x,hx,rfl⟩:=sX hd;obtain⟨hk2,rfl⟩:=oN hx;obtain⟨hn,rfl⟩:=hk;have kT:k<T.length:=by rw[OT.len];exact hk2
  have kW:k<w.length:=by rw[W.len];exact hk2
  refine⟨[.val<|cK p,.val (.lst<|w.map wsD),.val (.tup<|T.map bJ),.val<|.int (k:Int),.val (bJ<|(bQ p).getD k [])],jX (js:=[3,4]) rfl (dZ (pgn 3)<|dZ (pgn 4) jY) rfl rfl, ?_⟩;refine aX<|gJ (k:=aKr w T k) ?_ (λh=> ?_) λh=>cW ?_
  ·have ka:=aNM kW;unfold aKr;cases hq:w.getD k none with
   |none=>rw[hq] at ka;exact PWd.pt<|kS (k:=false) (j:=false) (aAX (d:=.non) (jU (n:=k) (d:=.non) (PEd.bor<|pdv 1) (pdv 3) ka λ_ _=>rfl) lE) λh=>by cases h
   |some L=>rw[hq] at ka;exact PWd.pt<|kS (k:=true) (j:= !decide (T.getD k []∈L)) (aAX (d:=tL L) (jU (n:=k) (d:=tL L) (PEd.bor<|pdv 1) (pdv 3) ka λ_ _=>rfl) lE) λ_=>lB (PTd.cast (aAS (d:=bJ<|T.getD k []) (ds:=L.map bJ) (zM (n:=k) (pdv 2) (pdv 3) (zC kT) λ_ _=>rfl) (jU (n:=k) (d:=tL L) (PEd.bor<|pdv 1) (pdv 3) ka λ_ _=>rfl) (uJ _) (rQ L)<|by have:=oZ L;show(A.deeper _).units+1+_<AO;omega)<|by rw[aGf])
  ·refine aX<|cY (pdv 4) trivial ?_;show R.val _=R.val (aNe<|rB w (bQ p) T);rw[show rB w (bQ p) T=some ((bQ p).getD k []) from aBQ hk2 h hn];rfl
  ·refine⟨[.val<|cK p,.val (.lst<|w.map wsD),.val (.tup<|T.map bJ),.un,.un],⟨.inr rfl,.inr rfl,.inr rfl,.inl rfl,.inl rfl,trivial⟩,λj hj=> ?_,rfl⟩
   by_cases q:j<k
   ·exact hn j q
   ·have:j=k:=by omega
    subst this;exact h
 ·obtain⟨hn,rfl⟩:=hn;rw[oV,aA] at hn;refine aX<|cY lE trivial ?_;show R.val _=R.val (aNe<|rB w (bQ p) T);rw[show rB w (bQ p) T=none from uV hn];rfl
theorem aIt(F:FI K mg "does_wish" aLb)(GM:bG P w K mg base "misses_at" 3 3 aKP):bG P w K mg base "does_wish" 4 3 aKS:=by
 refine cS (N:=nl6) (ps:=nl6) (k:=3) F λf nd cdv A outer s H E hr ds r hl c=> ?_
 obtain⟨p,w,T,hp,W,OT,rfl,rfl⟩:=c;exact aX<|cY (PEd.cast (aHe (pdc (ds:=[cK p,.lst<|w.map wsD,.tup<|T.map bJ]) GM hr (aC (pdv 0) (aC (pdv 1)<|aC (pdv 2) aO)) ⟨p,w,T,hp,W,OT,rfl,rfl⟩) lE)<|by rw[aJj]) trivial rfl
theorem aIC(F:FI K mg "first_that_does" sFt)(GD:bG P w K mg base "does_wish" 4 3 aKS):bG P w K mg base "first_that_does" 5 3 aIa:=by
 refine cS (N:=["size","book","wish","entry"]) (ps:=["size","book","wish"]) (k:=4) F λf nd cdv A outer s H E hr ds r hl c=> ?_
 obtain⟨p,L,b,B,w,hp,S,O,W,rfl,rfl⟩:=c;refine aH<|fM (ds:=B.map enD) (λt sd=>ftQ p w B=ftQ p w (B.drop t)/\sd=[.val<|cK p,.val (.lst<|B.map enD),.val (.lst<|w.map wsD),.un]) (fK<|pdv 1) ⟨_,Le.refl _,rfl,rfl⟩ (λt d sdt hd ht=> ?_) λsdn hn=> ?_
 ·obtain⟨q,rfl⟩:=ht;obtain⟨e,he,rfl,_⟩:=oD hd;obtain⟨tl,ee⟩:=aD.mp he;obtain⟨_,_,x1,_,x4⟩:=O.ent e<|aK he;have tk:aFm p e.2.2:=by rw[x4];exact aJH hp S x1
  rw[eJ tl,ee] at q;refine⟨[.val<|cK p,.val (.lst<|B.map enD),.val (.lst<|w.map wsD),.val<|enD e],pgN 3, ?_⟩;refine aX<|gJ (k:=doQ p w e.2.2) (lQ<|pdc (ds:=[cK p,.lst<|w.map wsD,.tup<|e.2.2.map bJ]) GD hr (aC (pdv 0) (aC (pdv 2)<|aC (pdx (n:=2) (ds:=[.int e.1,tN e.2.1,.tup<|e.2.2.map bJ])<|pdv 3) aO)) ⟨p,w,e.2.2,hp,W,tk,rfl,rfl⟩) (λh=> ?_) λh=>cW ?_
  ·have e3:ftQ p w B=some e:=by rw[q];exact List.find?_cons_of_pos (p:=λe:Bk=>doQ p w e.2.2) h
   rw[e3];exact aX (kF<|pdv 3)
  ·refine⟨[.val<|cK p,.val (.lst<|B.map enD),.val (.lst<|w.map wsD),.un],⟨.inr rfl,.inr rfl,.inr rfl,.inl rfl,trivial⟩, ?_,rfl⟩;rw[q];exact List.find?_cons_of_neg (p:=λe:Bk=>doQ p w e.2.2) (by rw[h];decide)
 ·obtain⟨q,rfl⟩:=hn;rw[aA,aKi] at q;rw[q];exact aX<|kF lE
noncomputable def aOR(m:Int):D->Bool
 |.tup (.int a::_)=>decide<|a<m
 |_=>false
abbrev nl7:List Str:=["size","stock","bound","wish","book","found"]
theorem aIL{CN:BG}(F:FI K mg "least_row" sLr)(GO:bG P w K mg base "book_of" 6 3 aLd/\jK P w K mg base "book_of" 6 3 aDb (.ref CN) [] [])(GT:bG P w K mg base "first_that_does" 5 3 aIa):bG P w K mg base "least_row" 7 4 aHY/\jK P w K mg base "least_row" 7 4 aIl (.ref CN) [] []:=by
 have nd2:(["entry","found"]:List Str).Nodup:=by decide+kernel
 constructor
 ·refine cS (N:=nl7) (ps:=["size","stock","bound","wish"]) (k:=6) F λf nd cdv A outer s H E hr ds r hl c=> ?_
  obtain⟨p,L,b,w,hp,S,dn,FU,W,rfl,rfl⟩:=c;have O:=aGZ hp S FU;refine aH<|pK (ds:=(bkQ p L b).map enD) 4 (pdc (ds:=[cK p,lK L,.int b]) GO.1 hr (aC (pdv 0) (aC (pdv 1)<|aC (pdv 2) aO)) ⟨p,L,b,hp,S,dn,FU,rfl,rfl⟩) λl4=>iB 4 rfl ?_;generalize bkQ p L b=B at O;have bl:=O.len;refine aH<|iG (d:=oeD<|ftQ p w B) 5 (pdc (ds:=[cK p,.lst<|B.map enD,.lst<|w.map wsD]) GT hr (aC (pdv 0) (aC (pdv 4)<|aC (pdv 3) aO)) ⟨p,L,b,B,w,hp,S,O.bk,W,rfl,rfl⟩) ?_;unfold lrD;cases hq:ftQ p w B with
  |none=>refine aH<|hX (k:=true) (PTd.cast (uE (d:=.non) (pdv 5) lE) rfl) rfl ?_;exact aX (kF<|pdT (ds:=[.str "none",.lst<|B.map enD]) (aC dA<|aC (pdv 4) aO))
  |some e=>
   have ec:((B.map enD).filter<|aOR e.1).map id=(B.filter λx=>decide<|x.1<e.1).map enD:=by rw[kR,aKx];rfl
   refine aKn (PTd.cast (uE (d:=enD e) (pdv 5) lE) rfl) ?_;refine aX<|kF (pdT (ds:=[.str "row",tN e.2.1,.lst<|(B.filter λx=>decide<|x.1<e.1).map enD])<|aC dA (aC (pdx (n:=1) (ds:=[.int e.1,tN e.2.1,.tup<|e.2.2.map bJ])<|pdv 5)<|aC (PEd.val (PEd.cast (jL (ds:=B.map enD) (N:=["entry","found"]) (M:=nl7) (cap:=[none,some 5]) (sc:=bD sLr) (Tb:=λd=>[.val d,.val<|enD e]) (aOR e.1) id (fK<|pdv 4) (by rw[aA];omega) rfl (by decide+kernel) rfl (by decide+kernel) rfl (λcl C fp s H d hd=>pgN 0) (λd hd=>⟨.inl rfl,.inr rfl,trivial⟩) (λcl C fp s H d hd=>.inr ⟨_,rfl, ?_⟩) λcl C2 fp s H d hd _=>(pdv 0))<|by rw[ec])) aO));obtain⟨x,_,rfl⟩:=aQ.mp hd;exact kM (g:=λi j=>decide<|i<j) wR (pdx (n:=0) (ds:=[.int x.1,tN x.2.1,.tup<|x.2.2.map bJ]) (d:=.int x.1)<|pdv 0) (pdx (n:=0) (ds:=[.int e.1,tN e.2.1,.tup<|e.2.2.map bJ]) (d:=.int e.1)<|pdv 1)<|fR _
 ·refine wJ (N:=nl7) (ps:=["size","stock","bound","wish"]) (k:=6) F λf nd cdv A outer s H E hr hE ds hl c=> ?_
  obtain⟨p,L,b,w,hp,S,dn,g,W,rfl⟩:=c;exact aH<|aAO 4 nd rfl (Or.inl rfl) (aCV (ds:=[cK p,lK L,.int b]) (dds:=[]) GO.2 rfl hr rfl (aC (pdv 0) (aC (pdv 1)<|aC (pdv 2) aO)) (λ_=>RepL.nil) ⟨p,L,b,hp,S,dn,g,rfl⟩ rfl<|xS hE)
abbrev nl8:List Str:=["size","stock","bound","wish","book"]
theorem aEA(F:FI K mg "shows_none" aLh)(GH:bG P w K mg base "holds" 6 4 aHF)(GT:bG P w K mg base "first_that_does" 5 3 aIa):bG P w K mg base "shows_none" 7 5 aLs:=by
 refine cS (N:=nl8) (ps:=nl8) (k:=6) F λf nd cdv A outer s H E hr ds r hl c=> ?_
 obtain⟨p,L,b,B,ws,hp,S,dn,O,h0,W,rfl,rfl⟩:=c;exact aX (kF<|mP (k:=wD p L b B) (j:=(ftQ p ws B).isNone) (pdc (ds:=[cK p,lK L,.int b,.lst<|B.map enD]) GH hr (aC (pdv 0)<|aC (pdv 1) (aC (pdv 2)<|aC (pdv 4) aO)) ⟨p,L,b,B,hp,S,dn,O,h0,rfl,rfl⟩) λh=>oH (PEd.cast (aHe (d:=oeD<|ftQ p ws B) (pdc (ds:=[cK p,.lst<|B.map enD,.lst<|ws.map wsD]) GT hr (aC (pdv 0) (aC (pdv 4)<|aC (pdv 3) aO)) ⟨p,L,b,B,ws,hp,S,O,W,rfl,rfl⟩) lE)<|by rw[aMx]))
theorem aEu(F:FI K mg "_law_cell_at" aCT)(zlen:mg "len"=none):bG P w K mg base "_law_cell_at" 1 2 aIk:=by
 refine cS (N:=["_law_script","_law_k"]) (ps:=["_law_script","_law_k"]) (k:=0) F λf nd cdv A outer s H E hr ds r hl c=> ?_
 obtain⟨ns,k,rfl,hk,rfl⟩:=c;refine aH<|gJ (kM wR (pdv 1) (aJK rfl zlen<|pdv 0)<|fR _) (λh=> ?_) λh=>cW ?_
 ·have h':k<ns.length:=by simpa using h
  exact aX (kF<|aMo (z:=ns.getD k 0) (pdv 0) (pdv 1) (by simp[h']) λ_ _=>rfl)
 ·have h':¬ k<ns.length:=by simpa using h
  refine aX<|cY bX trivial ?_;show R.val (.int 0)=R.val (.int<|ns.getD k 0);simp[cB,h']
theorem aFF(F:FI K mg "_law_mixed" aHu):bG P w K mg base "_law_mixed" 1 2 CMx:=by
 refine cS (N:=["_law_cell","_law_k","_law_number"]) (ps:=["_law_cell","_law_k"]) (k:=0) F λf nd cdv A outer s H E hr ds r hl c=> ?_
 obtain⟨c,k,rfl,hk,rfl⟩:=c;have kb:((k:Nat):Int).natAbs<2^250:=dC (by omega:_<=1000) (by decide);refine aH<|gJ (aJL (dY gP (pdv 0) bX<|by decide) bX) (λh=> ?_) λh=>cW ?_
 ·have h':c%2=0:=by simpa using h
  have e2:(2:Int)*2^((8:Int)*(k:Int)).toNat=((2^(8*k+1):Nat):Int):=by
   have:((8:Int)*(k:Int)).toNat=8*k:=by omega
   rw[this,aOW]
   push_cast
   exact aOZ _ _
  have lg:(2^(8*k+1):Nat).log2<9000:=by rw[Nat.log2_two_pow];omega
  refine aX<|cY (dY aBk (pdv 0) (PEd.ic (dY aHm bX (dY kU bX (pdv 1)<|lA (by decide) kb) ⟨by omega,by omega,by decide⟩) e2) ⟨pw0 _,lg⟩) trivial ?_;unfold mxS;rw[if_pos h']
 have h':¬ c%2=0:=by simpa using h
 have c1:=eW c (show(2147483647:Int)≠0 by decide);have c2:=dO c (show(0:Int)<2147483647 by decide);have big:∀z:Int,0<=z/\z<2147483647+69621*400+7919->z.natAbs<2^250:=λz hz=>dC (by omega:z.natAbs<=3000000000)<|by decide
 refine aH<|iG (d:=.int<|mx1 c k) 2 (dY gP (dY kU (gF iI (gF iI (dY gP (pdv 0) bX<|by decide) (dY kU bX (pdv 1)<|lA (by decide) kb)) bX) bX (lA (big _ ⟨by omega,by omega⟩)<|by decide)) bX<|by decide) ?_;have r1:0<=mx1 c k/\mx1 c k<2147483647:=⟨eW _<|by decide,dO _<|by decide⟩;refine aH<|iG (d:=.int<|mx2 c k) 2 (dY gP (dY kU (pdv 2) (pdv 2) (lA (big _ ⟨by omega,by omega⟩)<|big _ ⟨by omega,by omega⟩)) bX<|by decide) ?_;have r2:0<=mx2 c k/\mx2 c k<2147483629:=⟨eW _<|by decide,dO _<|by decide⟩;refine aX<|cY (dY gP (gF iI (dY kU (pdv 2) (pdv 2) (lA (big _ ⟨by omega,by omega⟩)<|big _ ⟨by omega,by omega⟩)) (dY kU bX (pdv 1)<|lA (by decide) kb)) bX<|by decide) trivial ?_;unfold mxS;rw[if_neg h']
def aAC:List D->R->Prop:=λds r=>∃p,p∈bO/\ds=[cK p]/\r=.own ((hW (2^p.1.toNat) p.2.toNat).map bJ)
abbrev nl9:List Str:=["_law_size","_law_found","_law_box","_law_longer","_law_one"]
theorem aCa(F:FI K mg "_law_fillings" aCM)(zrange:mg "range"=none):bG P w K mg base "_law_fillings" 1 1 aAC:=by
 refine cS (N:=nl9) (ps:=["_law_size"]) (k:=0) F λf nd cdv A outer s H E hr ds r hl c=> ?_
 obtain⟨p,hp,rfl,rfl⟩:=c;obtain⟨h1,h2,h3,h4,h5⟩:=vT p hp;have e2:p.2=((p.2.toNat:Nat):Int):=by omega
 have e1:p.1=((p.1.toNat:Nat):Int):=by omega
 have nd2:(["_law_word_here","_law_one"]:List Str).Nodup:=by decide+kernel
 have m64:2^p.1.toNat<=64:=by
  have:p.1.toNat<=6:=by omega
  exact cG (qC (by decide) this)<|by decide
 refine aH<|pK (ds:=[bJ []]) 1 (pdL (ds:=[bJ []])<|aC (aCz (ds:=[]) aO<|bP _) aO) λl=> ?_;refine aH<|fM (ds:=gR 0 p.2.toNat) (λk sd=>∃l,sd=[.val<|cK p,.own l<|(hW (2^p.1.toNat) k).map bJ,.un,.un,.un]) (iR (n:=p.2.toNat) rfl zrange (PEd.cast (pdx (n:=1) (d:=.int p.2)<|pdv 0)<|by rw[<-e2])<|by omega) ⟨_,Le.refl _,l,rfl⟩ (λk d sdk hd hk=> ?_) λsdn hn=> ?_
 ·obtain⟨hk2,rfl⟩:=iK hd;obtain⟨l2,rfl⟩:=hk
  have hsm:(hW (2^p.1.toNat) k).length*2^p.1.toNat<=900:=by rw[rL];exact yG p hp k hk2
  have lens:=vX (2^p.1.toNat) k;have eL:hW (2^p.1.toNat) (k+1)=(hW (2^p.1.toNat) k).flatMap λs=>(bM<|2^p.1.toNat).map λ(w:Nat)=>s++[(w:Int)]:=rfl
  rw[eL];generalize hW (2^p.1.toNat) k=L at *;refine⟨_,pgN 2,iB 1 rfl ?_⟩;refine aH<|rX 3 nd rfl (Or.inl rfl) (oM (ds:=[]) aO<|bP _) λl3=> ?_;refine aH<|uH (ds:=L.map bJ) (λt=>[.val<|cK p,.val<|tL L,.un,.own l3<|((L.take t).flatMap λs=>(bM<|2^p.1.toNat).map λ(w:Nat)=>s++[(w:Int)]).map bJ,.un]) (λt=>[.val<|cK p,.val<|tL L,.un,.own l3<|((L.take t).flatMap λs=>(bM<|2^p.1.toNat).map λ(w:Nat)=>s++[(w:Int)]).map bJ,.val (bJ<|L.getD t [])]) (fK<|pdv 1) ⟨.inr rfl,.inr rfl,.inl rfl,.inr rfl,.inr rfl,trivial⟩ (λt d hd=> ?_) (λt d hd=> ?_) ?_
  ·obtain⟨_,rfl⟩:=oN hd;exact pgN 4
  ·obtain⟨ht,rfl⟩:=oN hd;have hmem:L.getD t []∈L:=DL.getD_mem ht
   have et:L.take (t+1)=L.take t++[L.getD t []]:=by rw[eM];simp[cB,ht]
   have lk:(L.take t).length*2^p.1.toNat+2^p.1.toNat<=900:=by
    have h1:(L.take t).length+1<=L.length:=by rw[cH];omega
    have h2:=kY (2^p.1.toNat) h1;rw[aEZ] at h2;omega
   have ec:((gR 0<|2^p.1.toNat).filter λ_=>true).map (λd=>D.tup<|(L.getD t []).map D.int++[d])=((bM<|2^p.1.toNat).map λ(w:Nat)=>L.getD t []++[(w:Int)]).map bJ:=by
    rw[cN.mpr λ_ _=>rfl];unfold gR;rw[bB,bB];refine bW λw _=> ?_
    simp[bJ]
   have lt:=lens _ hmem;refine aX<|vA (ds2:=((bM<|2^p.1.toNat).map λ(w:Nat)=>L.getD t []++[(w:Int)]).map bJ) 3 rfl (pv 3) (PEd.val (PEd.cast (pdC (N:=["_law_word_here","_law_one"]) (M:=nl9) (cap:=[none,some 4]) (sc:=bD aCM) (Tb:=λd=>[.val d,.val (bJ<|L.getD t [])]) (λ_=>true) (λd=>D.tup<|(L.getD t []).map D.int++[d]) (iR (n:=2^p.1.toNat) rfl zrange (zP (k:=p.1.toNat) (PEd.ic (pdx (n:=0)<|pdv 0) e1)<|by omega)<|by omega) (by rw[gI];omega) (λcl C fp s H d _=>.inl ⟨rfl,rfl⟩) λcl C fp s H d _ _=>mY (pdv 1) (pdT (ds:=[d])<|aC (pdv 0) aO) ?_)<|by rw[ec])) ?_ ?_
   ·simp only[aA,bU,fO];omega
   ·rw[aA,oA,aA,aA,fN];omega
   ·refine⟨.inr rfl,.inr rfl,.inr rfl,.inr ?_,.inl rfl,trivial⟩;rw[et,aFf,aW];simp
  ·rw[aA,eI];refine aX<|aFu 1 3 rfl nd rfl (Or.inl rfl) (pv 3) ?_;exact⟨_,Le.refl _,l3,rfl⟩
 ·obtain⟨l2,rfl⟩:=hn;refine aX<|lG 1 rfl (pv 1) ?_;show R.own _=R.own _;rw[gI]
theorem yY:∀k,k<10->decide (V.str (nm k)=V.str "down")=decide (k=9):=by decide+kernel
theorem aGW{ws:List Int}{i:Nat}(h:i<ws.length):(ws.map D.int)[i]? =some (.int<|ws.getD i 0):=by simp[cB,h]
abbrev aNw:List Str:=["_law_size","_law_step","_law_filling"]
theorem aJA(F:FI K mg "_law_word" aHj):bG P w K mg base "_law_word" 1 3 aKK:=by
 refine cS (N:=["_law_size","_law_step","_law_filling","_law_most","_law_name","_law_a","_law_b"]) (ps:=aNw) (k:=0) F λf nd cdv A outer s H E hr ds r hl c=> ?_
 obtain⟨p,⟨k,i,j,n⟩,ws,O,G,rfl,rfl⟩:=c;obtain⟨h1,h2,h3,h4,h5⟩:=vT p O.sz;have e1:p.1=((p.1.toNat:Nat):Int):=by omega
 have m0:=pw0 p.1.toNat;have wl:=G.len;obtain⟨_,k10,i0,j0,n0⟩:=O;simp only at i0 j0 k10;have ai:(ws.map D.int)[i.toNat]? =some (.int<|ws.getD i.toNat 0):=aGW (by omega);have aj:(ws.map D.int)[j.toNat]? =some (.int<|ws.getD j.toNat 0):=aGW (by omega);show PSd _ (init _ [cK p,iW k i j n,bJ ws]) _ {nx:=λ_=>R.val (.int<|newW k ((2^p.1.toNat:Nat):Int) (ws.getD i.toNat 0) (ws.getD j.toNat 0) n)=.val .non,rt:=λr'=>r'=.val (.int<|newW k ((2^p.1.toNat:Nat):Int) (ws.getD i.toNat 0) (ws.getD j.toNat 0) n)};have t_put:=sN k k10;have t_not:=zW k k10;have t_up:=aFi k k10;have t_dn:=yY k k10;refine aH<|iG (d:=.int ((2^p.1.toNat:Nat):Int)) 3 (zP (PEd.ic (pdx (n:=0) (d:=.int p.1)<|pdv 0) e1)<|by omega) ?_
 by_cases k6:k<6
 ·have es:iW k i j n=.tup [.str<|nm k,.int i,.int j]:=by unfold iW;rw[if_pos k6]
  have en:newW k ((2^p.1.toNat:Nat):Int) (ws.getD i.toNat 0) (ws.getD j.toNat 0) n=zL k ((2^p.1.toNat:Nat):Int) (ws.getD i.toNat 0) (ws.getD j.toNat 0):=by unfold newW;rw[if_neg<|by omega,if_neg<|by omega]
  rw[es,en];refine aH<|iG (d:=.str<|nm k) 4 (pdx (n:=0)<|pdv 1) ?_;refine aH<|iG (d:=.int<|ws.getD i.toNat 0) 5 (nE (i:=i) (pdv 2) (pdx (n:=1)<|pdv 1) i0.1 ai λ_ _=>rfl) ?_;refine aH (fA (cP (pdv 4) dA rfl rfl rfl t_put) (decide_eq_false<|by omega)<|cW ?_);refine aH (fA (cP (pdv 4) dA rfl rfl rfl t_not) (decide_eq_false<|by omega)<|cW ?_);refine aH (fA (cP (pdv 4) dA rfl rfl rfl t_up) (decide_eq_false<|by omega)<|cW ?_);refine aH (fA (cP (pdv 4) dA rfl rfl rfl t_dn) (decide_eq_false<|by omega)<|cW ?_);refine aH<|iG (d:=.int<|ws.getD j.toNat 0) 6 (nE (i:=j) (pdv 2) (pdx (n:=2)<|pdv 1) j0.1 aj λ_ _=>rfl) ?_
  by_cases k0':k=0
  ·refine aH<|hX (cP (pdv 4) dA rfl rfl rfl<|aCQ k k10) (decide_eq_true k0') (aX<|cY (gF aGY (pdv 5)<|pdv 6) trivial ?_);rw[k0'];rfl
  refine aH (fA (cP (pdv 4) dA rfl rfl rfl<|aCQ k k10) (decide_eq_false k0')<|cW ?_)
  by_cases k1':k=1
  ·refine aH<|hX (cP (pdv 4) dA rfl rfl rfl<|aHZ k k10) (decide_eq_true k1') (aX<|cY (gF aLk (pdv 5)<|pdv 6) trivial ?_);rw[k1'];rfl
  refine aH (fA (cP (pdv 4) dA rfl rfl rfl<|aHZ k k10) (decide_eq_false k1')<|cW ?_)
  by_cases k2':k=2
  ·refine aH<|hX (cP (pdv 4) dA rfl rfl rfl<|aCy k k10) (decide_eq_true k2') (aX<|cY (gF aHt (pdv 5)<|pdv 6) trivial ?_);rw[k2'];rfl
  refine aH (fA (cP (pdv 4) dA rfl rfl rfl<|aCy k k10) (decide_eq_false k2')<|cW ?_)
  by_cases k3':k=3
  ·refine aH<|hX (cP (pdv 4) dA rfl rfl rfl<|aCv k k10) (decide_eq_true k3') (aX<|cY (dY gP (gF iI (pdv 5)<|pdv 6) (pdv 3) m0) trivial ?_);rw[k3'];rfl
  refine aH (fA (cP (pdv 4) dA rfl rfl rfl<|aCv k k10) (decide_eq_false k3')<|cW ?_)
  by_cases k4':k=4
  ·refine aH<|hX (cP (pdv 4) dA rfl rfl rfl<|aAi k k10) (decide_eq_true k4') (aX<|cY (dY gP (gF sP (pdv 5)<|pdv 6) (pdv 3) m0) trivial ?_);rw[k4'];rfl
  refine aH (fA (cP (pdv 4) dA rfl rfl rfl<|aAi k k10) (decide_eq_false k4')<|cW ?_);have k5:k=5:=by omega
  refine aX<|cY (pdv 6) trivial ?_;rw[k5];rfl
 by_cases k6':k=6
 ·have es:iW k i j n=.tup [.str<|nm k,.int i,.int n]:=by unfold iW;rw[if_neg k6,if_pos k6']
  rw[es];refine aH<|iG (d:=.str<|nm k) 4 (pdx (n:=0)<|pdv 1) ?_;refine aH<|iG (d:=.int<|ws.getD i.toNat 0) 5 (nE (i:=i) (pdv 2) (pdx (n:=1)<|pdv 1) i0.1 ai λ_ _=>rfl) ?_;refine aH<|hX (cP (pdv 4) dA rfl rfl rfl t_put) (decide_eq_true k6') (aX<|cY (pdx (n:=2)<|pdv 1) trivial ?_);rw[k6'];rfl
 have es:iW k i j n=.tup [.str<|nm k,.int i]:=by unfold iW;rw[if_neg k6,if_neg k6']
 rw[es];refine aH<|iG (d:=.str<|nm k) 4 (pdx (n:=0)<|pdv 1) ?_;refine aH<|iG (d:=.int<|ws.getD i.toNat 0) 5 (nE (i:=i) (pdv 2) (pdx (n:=1)<|pdv 1) i0.1 ai λ_ _=>rfl) ?_;refine aH (fA (cP (pdv 4) dA rfl rfl rfl t_put) (decide_eq_false<|by omega)<|cW ?_)
 by_cases k7:k=7
 ·refine aH<|hX (cP (pdv 4) dA rfl rfl rfl t_not) (decide_eq_true k7) (aX<|cY (gF sP (gF sP (pdv 3) bX)<|pdv 5) trivial ?_);rw[k7];rfl
 refine aH (fA (cP (pdv 4) dA rfl rfl rfl t_not) (decide_eq_false k7)<|cW ?_)
 by_cases k8:k=8
 ·refine aH<|hX (cP (pdv 4) dA rfl rfl rfl t_up) (decide_eq_true k8) (aX<|cY (PEd.ic (dY gP (dY aLD bX (pdv 5)<|.inl ⟨by decide,by decide⟩) (pdv 3) m0)<|by rw[aOZ]) trivial ?_);rw[k8];rfl
 refine aH (fA (cP (pdv 4) dA rfl rfl rfl t_up) (decide_eq_false k8)<|cW ?_);have k9:k=9:=by omega
 refine aH<|hX (cP (pdv 4) dA rfl rfl rfl t_dn) (decide_eq_true k9) (aX<|cY (dY aBk (pdv 5) bX ⟨by decide,by decide⟩) trivial ?_);rw[k9];rfl
theorem aGv(q:SQ):∃es,sqD q=.tup (.str (nm q.1)::.int q.2.1::es):=by
 show ∃es,iW _ _ _ _=_;unfold iW
 split
 ·exact⟨_,rfl⟩
 ·split
  ·exact⟨_,rfl⟩
  ·exact⟨_,rfl⟩
theorem aGx(F:FI K mg "_law_after" aOI)(GW:bG P w K mg base "_law_word" 1 3 aKK):bG P w K mg base "_law_after" 2 3 aHG:=by
 refine cS (N:=aNw) (ps:=aNw) (k:=1) F λf nd cdv A outer s H E hr ds r hl c=> ?_
 obtain⟨p,q,ws,O,G,rfl,rfl⟩:=c;obtain⟨h1,h2,h3,h4,h5⟩:=vT p O.sz;have wl:=G.len;have i0:=O.i0;have li:q.2.1.toNat<ws.length:=by omega
 have ei:q.2.1=((q.2.1.toNat:Nat):Int):=by omega
 obtain⟨es0,es1⟩:=aGv q;have bx:∀ {X:Cx}{sd:List Slot}{a:Expr}{n0:Nat}{p1 p2:Pos},PEd X sd a (.val<|sqD q)->PEd X sd (.Subscript a (.Constant (.int 1) n0 p1) p2) (.val<|.int ((q.2.1.toNat:Nat):Int)):=λha=>PEd.ic (pdx (n:=1) (ds:=.str (nm q.1)::.int q.2.1::es0) (PEd.cast ha<|by rw[es1])) ei
 refine aX<|cY (PEd.cast (mY (mY (aAG (ol:=none) (oh:=some ((q.2.1.toNat:Nat):Int)) (pdv 2) trivial (bx<|pdv 1) ?_) (pdT (ds:=[.int<|nwQ p q ws])<|aC (pdc (ds:=[cK p,sqD q,bJ ws]) GW hr (aC (pdv 0) (aC (pdv 1)<|aC (pdv 2) aO)) ⟨p,q,ws,O,G,rfl,rfl⟩) aO) ?_) (aAG (ol:=some<|((q.2.1.toNat:Nat):Int)+1) (oh:=none) (pdv 2) (gF iI (bx<|pdv 1) bX) trivial ?_) ?_) ?_) trivial rfl
 ·rw[HT.sIx_nat,aA];omega
 ·rw[sZ ws li];simp only[aA,cH,bU,fO];omega
 ·have e:(((q.2.1.toNat:Nat):Int)+1)=((q.2.1.toNat+1:Nat):Int):=by push_cast;rfl
  rw[e,HT.sIx_nat,aA];omega
 ·rw[sZ ws li,qX ws li];simp only[aN,aA,cH,kH,bU,fO];omega
 ·rw[sZ ws li,qX ws li];unfold bJ onQ;rw[tE,if_pos li];simp
theorem aIG:∀k:Nat,k<10->([.str "and",.str "or",.str "xor",.str "add",.str "take",.str "copy",.str "put",.str "not",.str "up",.str "down"]:List D)[k]? =some (.str<|nm k):=by
 intro k hk
 match k,hk with
 |0,_=>rfl
 |1,_=>rfl
 |2,_=>rfl
 |3,_=>rfl
 |4,_=>rfl
 |5,_=>rfl
 |6,_=>rfl
 |7,_=>rfl
 |8,_=>rfl
 |9,_=>rfl
abbrev aOs:List Str:=["_law_size","_law_cell","_law_name","_law_i"]
theorem aJv(F:FI K mg "_law_drawn" aCG)(GM:bG P w K mg base "_law_mixed" 1 2 CMx):bG P w K mg base "_law_drawn" 2 2 aLo:=by
 refine cS (N:=aOs) (ps:=["_law_size","_law_cell"]) (k:=1) F λf nd cdv A outer s H E hr ds r hl c=> ?_
 obtain⟨p,c,hp,rfl,rfl⟩:=c;obtain⟨h1,h2,h3,h4,h5⟩:=vT p hp;have m0:=pw0 p.1.toNat;have e1:p.1=((p.1.toNat:Nat):Int):=by omega
 have p20:(0:Int)<p.2:=by omega
 have d0:=eW (mxS c 1) (show(10:Int)≠0 by decide);have d1:=dO (mxS c 1) (show(0:Int)<10 by decide);have mx:∀ {sd:List Slot}{j0:Nat}{p1 p2 p3 p4:Pos} (k:Nat),k<=400->sd[1]? =some (.val<|.int c)->PEd (jP CX0 P w K mg base aOs "_law_drawn" (bD aCG) f cdv A outer s H E).nox sd (.Call (.Name "_law_mixed" p1) [.Name "_law_cell" p2, .Constant (.int (k:Int)) j0 p4] [] p3) (.val (.int<|mxS c k)):=λk hk hs=>pdc (ds:=[.int c,.int (k:Int)]) GM hr (aC (kJ 1 hs<|pv 1)<|aC bX aO) ⟨c,k,rfl,hk,rfl⟩
 refine aH<|iG (d:=.str<|nm (mxS c 1%10).toNat) 2 (aAk (i:=mxS c 1%10) (ds:=[.str "and",.str "or",.str "xor",.str "add",.str "take",.str "copy",.str "put",.str "not",.str "up",.str "down"]) (PEd.bor (PEd.val<|pdL (ds:=[.str "and",.str "or",.str "xor",.str "add",.str "take",.str "copy",.str "put",.str "not",.str "up",.str "down"]) ?_)) (dY gP (mx 1 (by decide) rfl) bX<|by decide) d0 (aIG _<|by omega) λ_ _=>rfl) ?_
 ·show PAd _ _ _ [.val<|.str "and",.val<|.str "or",.val<|.str "xor",.val<|.str "add",.val<|.str "take",.val<|.str "copy",.val<|.str "put",.val<|.str "not",.val<|.str "up",.val<|.str "down"]
  repeat' (first|exact aO|refine aC dA ?_)
 refine aH<|iG (d:=.int<|mxS c 2%p.2) 3 (dY gP (mx 2 (by decide) rfl) (pdx (n:=1) (d:=.int p.2)<|pdv 0) p20) ?_;have k10:(mxS c 1%10).toNat<10:=by omega
 show PSd _ _ _ {nx:=λ_=>R.val (iW (mxS c 1%10).toNat (mxS c 2%p.2) (mxS c 4%p.2)<|mxS c 3%((2^p.1.toNat:Nat):Int))=.val .non,rt:=λr'=>r'=.val (iW (mxS c 1%10).toNat (mxS c 2%p.2) (mxS c 4%p.2)<|mxS c 3%((2^p.1.toNat:Nat):Int))};generalize (mxS c 1%10).toNat=k at *
 by_cases k6:k=6
 ·refine aH<|hX (cP (pdv 2) dA rfl rfl rfl<|sN k k10) (decide_eq_true k6) (aX<|cY (pdT (ds:=[.str<|nm k,.int<|mxS c 2%p.2,.int<|mxS c 3%((2^p.1.toNat:Nat):Int)])<|aC (pdv 2) (aC (pdv 3)<|aC (dY gP (mx 3 (by decide) rfl) (zP (PEd.ic (pdx (n:=0) (d:=.int p.1)<|pdv 0) e1)<|by omega) m0) aO)) trivial ?_);show R.val _=R.val _;unfold iW;rw[if_neg<|by omega,if_pos k6]
 refine aH (fA (cP (pdv 2) dA rfl rfl rfl<|sN k k10) (decide_eq_false k6)<|cW ?_)
 by_cases k7:7<=k
 ·refine aH (hX (PWd.pt<|mM (cP (pdv 2) dA rfl rfl rfl<|zW k k10) λ_=>mM (cP (pdv 2) dA rfl rfl rfl<|aFi k k10) λ_=>mO (cP (pdv 2) dA rfl rfl rfl<|yY k k10)) (by rcases(by omega:k=7\/k=8\/k=9) with h|h|h<;>simp[h]) (aX<|cY (pdT (ds:=[.str<|nm k,.int<|mxS c 2%p.2]) (aC (pdv 2)<|aC (pdv 3) aO)) trivial ?_))
  show R.val _=R.val _;unfold iW;rw[if_neg<|by omega,if_neg k6]
 refine aH (fA (PWd.pt (mM (cP (pdv 2) dA rfl rfl rfl (zW k k10)) fun _=>mM (cP (pdv 2) dA rfl rfl rfl (aFi k k10)) fun _=>mO (cP (pdv 2) dA rfl rfl rfl (yY k k10)))) (by
  have a1:¬ k=7:=by omega
  have a2:¬ k=8:=by omega
  have a3:¬ k=9:=by omega
  simp[a1,a2,a3]) (cW ?_))
 refine aX<|cY (pdT (ds:=[.str<|nm k,.int<|mxS c 2%p.2,.int<|mxS c 4%p.2])<|aC (pdv 2) (aC (pdv 3)<|aC (dY gP (mx 4 (by decide) rfl) (pdx (n:=1) (d:=.int p.2)<|pdv 0) p20) aO)) trivial ?_;show R.val _=R.val _;unfold iW;rw[if_pos<|by omega]
theorem aFD(F:FI K mg "_law_moves" aOS)(GF:bG P w K mg base "_law_fillings" 1 1 aAC)(GA:bG P w K mg base "_law_after" 2 3 aHG):bG P w K mg base "_law_moves" 3 2 (aOz P w K):=by
 refine cS (N:=["_law_size","_law_kit","_law_moves_here","_law_step","_law_price","_law_made","_law_filling"]) (ps:=["_law_size","_law_kit"]) (k:=2) F λf nd cdv A outer s H E hr ds r hl c=> ?_
 obtain⟨p,L,hp,S,rfl,rfl⟩:=c;have hu:=uN hr 2;have f9:(bQ p).length<=64:=jB hp;have l8:=S.le;refine aH<|pK (ds:=[]) 2 (oM (ds:=[]) aO<|bP _) λl2=> ?_;refine aH<|fM (ds:=L.map skD) (λt sd=>sd=[.val<|cK p,.val<|lK L,.own l2 ((L.take t).map<|mgD P w K p),.un,.un,.un,.un]) (fK<|pdv 1) ⟨_,Le.refl _,rfl⟩ (λt d sdt hd ht=> ?_) λsdn hn=> ?_
 ·obtain⟨sk,hsk,rfl,et⟩:=oD hd;have O:=(S.st sk<|aK hsk).1;have tk:((L.take t).map<|mgD P w K p).length<=10000:=by rw[aA,cH];omega
  rw[et,aW];subst ht;generalize (L.take t).map (mgD P w K p)=vs at tk;refine⟨[.val<|cK p,.val<|lK L,.own l2 vs,.val<|sqD sk.1,.val<|.int sk.2,.un,.un],jX (ds:=[sqD sk.1,.int sk.2]) (js:=[3,4]) rfl (dZ (pgn 3)<|dZ (pgn 4) jY) rfl rfl, ?_⟩;refine aH<|qI (hkT P w) 5 nd rfl (Or.inl rfl) λl5=> ?_;refine aH<|fM (ds:=(bQ p).map bJ) (λm sd=>sd=[.val<|cK p,.val<|lK L,.own l2 vs,.val<|sqD sk.1,.val<|.int sk.2,oG (hkT P w) K l5 (((bQ p).take m).map inK) (((bQ p).take m).map λws=>bJ<|onQ p sk.1 ws),.un]) (fK (PEd.val<|pdc (ds:=[cK p]) GF hr (aC (pdv 0) aO) ⟨p,hp,rfl,rfl⟩)) ⟨_,Le.refl _,rfl⟩ (λm d sdm hd hm=> ?_) λsdn hn=> ?_
  ·obtain⟨ws,hws,rfl,em⟩:=oD hd;have G:=rS hp (aK hws)
   have nk:inK ws∉((bQ p).take m).map inK:=λz=>by obtain⟨y,y1,y2⟩:=aQ.mp z;rw[zH y2] at y1;exact aJq (aEL hp) hws y1
   have tk2:(((bQ p).take m).map λws=>bJ<|onQ p sk.1 ws).length<=10000:=by rw[aA,cH];omega
   rw[em,aW,aW];subst hm;generalize ((bQ p).take m).map inK=ks at nk;generalize ((bQ p).take m).map (λws=>bJ<|onQ p sk.1 ws)=us at tk2;refine⟨[.val<|cK p,.val<|lK L,.own l2 vs,.val<|sqD sk.1,.val<|.int sk.2,oG (hkT P w) K l5 ks us,.val<|bJ ws],pgN 6, ?_⟩;exact aX (qG (hk:=hkT P w) (k:=inK ws) (d:=bJ<|onQ p sk.1 ws) 5 hu rfl (pv 5) (pdc (ds:=[cK p,sqD sk.1,bJ ws]) GA hr (aC (pdv 0) (aC (pdv 3)<|aC (pdv 6) aO)) ⟨p,sk.1,ws,O,G,rfl,rfl⟩) (PEd.cast (pdv 6)<|by rw[show(hkT P w).dat (inK ws)=tD (inK ws) from rfl,aIj]) nk tk2<|nxt (b:=[.val<|cK p,.val<|lK L,.own l2 vs,.val<|sqD sk.1,.val<|.int sk.2,oG (hkT P w) K l5 (ks++[inK ws]) (us++[bJ<|onQ p sk.1 ws]),.un]) rfl)
  ·subst hn;rw[aA,eI];refine aAL 5 rfl ?_;refine aX<|nI (d:=mgD P w K p sk) 2 rfl (pv 2) (pdv 5) tk ?_;exact(nxt (b:=[.val<|cK p,.val<|lK L,.own l2<|vs++[mgD P w K p sk],.un,.un,.un,.un]) rfl)
 ·subst hn;rw[aA,eI];exact aX<|lG 2 rfl (pv 2) rfl
theorem aJI(p:Int×Int)(L:List SK)(t:Nat):cnD p L (t+1)=cnD p L t++[.int ((iC p L<|t+1).1.length:Int)]:=by unfold cnD;rw[aKw,aW];rfl
abbrev nl12:List Str:=["_law_filling","_law_moves_here","_law_k"]
abbrev aNm:List Str:=["_law_size","_law_kit","_law_most","_law_moves_here","_law_start","_law_layers","_law_known","_law_counts_here","_law_price","_law_table","_law_k","_law_behind"]
theorem aFx(F:FI K mg "_law_counts" aNa)(zrange:mg "range"=none)(zlen:mg "len"=none)(ztuple:mg "tuple"=none)(GF:bG P w K mg base "_law_fillings" 1 1 aAC)(GM:bG P w K mg base "_law_moves" 3 2 (aOz P w K)):bG P w K mg base "_law_counts" 4 3 aGP:=by
 have nd2:nl12.Nodup:=by decide+kernel
 refine cS (N:=aNm) (ps:=["_law_size","_law_kit","_law_most"]) (k:=3) F λf nd cdv A outer s H E hr ds r hl c=> ?_
 obtain⟨p,L,hp,S,rfl,rfl⟩:=c;have hu:=uN hr 2;have hu1:=uN hr 1;have f9:(bQ p).length<=64:=jB hp;have l8:=S.le;have hpr:=S.pr;have ln:∀ {l4:BG}{sd:List Slot}{p1 p2 p3:Pos}{ks:List (List<|List Key)}{ds:List D},sd[6]? =some (oG (hkN P w) K l4 ks ds)->PEd (jP CX0 P w K mg base aNm "_law_counts" (bD aNa) f cdv A outer s H E).nox sd (.Call (.Name "len" p1) [.Name "_law_known" p2] [] p3) (.val<|.int ks.length):=λhs=>aJc (hk:=hkN P w) rfl zlen (uF 6 hs<|pv 6)
 refine aH<|pK (ds:=L.map<|mgD P w K p) 3 (pdc (ds:=[cK p,lK L]) GM hr (aC (pdv 0)<|aC (pdv 1) aO) ⟨p,L,hp,S,rfl,rfl⟩) λl2=>iB 3 rfl ?_;refine aH<|iG (d:=.tup<|(bQ p).map bJ) 4 (kZ rfl ztuple<|PEd.bor (PEd.val<|pdc (ds:=[cK p]) GF hr (aC (pdv 0) aO) ⟨p,hp,rfl,rfl⟩)) ?_;refine aH<|aDY (-1) 5 nd rfl (Or.inl rfl) λl3=> ?_;refine aH (aEp (ds:=[tlD ([],bQ p)]) (k:=0) 5 rfl (pdL (ds:=[tlD ([],bQ p)])<|aC (pdv 4) aO) (by decide) rfl (fB rfl) (λa ls'=> ?_)<|aIN hu1 (pv 5) pe_int eY rfl);refine aH<|qI (hkN P w) 6 nd rfl (Or.inl rfl) λl4=> ?_;refine aH<|pK (ds:=cnD p L 0) 7 (pdL (ds:=[]) aO) λl7=> ?_
 have e0:lH (λ_=>[]) 0 [tlD ([],bQ p)]=lyT (iC p L 0):=funext λj=>by
  show(if j=0 then[tlD ([],bQ p)] else[])=List.map tlD (if j=0 then[(([]:List Nat),bQ p)] else[])
  split<;>rfl
 rw[e0];have cl:∀t,(cnD p L t).length=t:=λt=>by unfold cnD;rw[aA,fN]
 refine aH<|fM (ds:=gR 0 41) (λt sd=>∃q kvs ls,q+1=(t:Int)/\kvs.length<=1+8*(iC p L t).1.length/\sd=[.val<|cK p,.val<|lK L,.val<|.int 500,.val<|.lst (L.map<|mgD P w K p),.val (.tup<|(bQ p).map bJ),oLy K l3 q (lyT<|iC p L t) kvs ls,oG (hkN P w) K l4 (ksE (iC p L t).1)<|(iC p L t).1.map λ_=>.bl true,.own l7<|cnD p L t,.un,.un,.un,.un]) (iR (n:=41) rfl zrange bX<|by decide) ⟨_,Le.refl _, -1,_,_,rfl,aKy 1 _,rfl⟩ (λt d sdt hd ht=> ?_) λsdn hn=> ?_
 ·obtain⟨q,kvs,ls,hq,hkv,rfl⟩:=ht;obtain⟨ht,rfl⟩:=iK hd;rw[oS];have oT:=S45.ok_run (beh:=fQ p L) (t0:=bQ p) hpr t;have bT:S45.Bd L.length (iC p L t):=S45.run_bd t;have eR:iC p L (t+1)=((iC p L t).2 (t:Int)).foldl (S45.one L.length (prK L) (fQ p L) (t:Int)) (iC p L t):=rfl;rw[eR];have oT:S45.Ok L.length (prK L) (fQ p L) (bQ p) (t:Int) ((iC p L t).2 (t:Int)) (iC p L t):=oT;have eR':=eR;generalize iC p L t=s0 at oT bT hkv eR';refine⟨[.val<|cK p,.val<|lK L,.val<|.int 500,.val<|.lst (L.map<|mgD P w K p),.val (.tup<|(bQ p).map bJ),oLy K l3 q (lyT s0) kvs ls,oG (hkN P w) K l4 (ksE s0.1)<|s0.1.map λ_=>.bl true,.own l7<|cnD p L t,.val<|.int (t:Int),.un,.un,.un],pgN 8, ?_⟩;refine aIv 5 rfl λls'=> ?_
  rw[hq];refine aH<|fM (ds:=lyT s0 (t:Int)) (λj sd=>∃kvs ls s,s=((s0.2 (t:Int)).take j).foldl (S45.one L.length (prK L) (fQ p L) (t:Int)) s0/\kvs.length<=1+8*s.1.length/\sd=[.val<|cK p,.val<|lK L,.val<|.int 500,.val<|.lst (L.map<|mgD P w K p),.val (.tup<|(bQ p).map bJ),oLy K l3 (t:Int) (lyT s) kvs ls,oG (hkN P w) K l4 (ksE s.1)<|s.1.map λ_=>.bl true,.own l7<|cnD p L t,.val<|.int (t:Int),.un,.un,.un]) (fK<|aFs 5 hu1 rfl (pv 5) (pdv 8) ⟨rfl,rfl,rfl,rfl⟩) ⟨_,Le.refl _,kvs,ls',s0,rfl,hkv,rfl⟩ (λj d sdj hd hj=> ?_) λsdn hn=> ?_
  ·obtain⟨kvs,ls,s,es,hkv,rfl⟩:=hj;obtain⟨x,hx,rfl,ex⟩:=oD hd
   have o:S45.Ok L.length (prK L) (fQ p L) (bQ p) (t:Int) ((s0.2 (t:Int)).drop j) s:=by rw[es];exact S45.Ok.take hpr (by omega) j oT
   have b:S45.Bd L.length s:=by rw[es];exact S45.fold_bd bT
   have xr:x∈(s0.2 (t:Int)).drop j:=by refine aK (i:=0) ?_;rw[aGB];exact hx
   obtain⟨x1,x2,x3,_⟩:=o.ly _ x<|o.sub x xr
   have rl:x.1.length<=40:=by
    have:=S45.len_pr (pr:=prK L) x.1 λk hk=>hpr k<|x2 k hk
    omega
   have tl:x.2.length<=64:=by rw[x3];exact aEa hp S x2
   have ti:∀ws∈x.2,ws∈bQ p:=λws hw=>by rw[x3] at hw;exact aBq hp S x2 ws hw
   have sl:s.1.length<=501:=o.le
   have eS:((s0.2 (t:Int)).take<|j+1).foldl (S45.one L.length (prK L) (fQ p L) (t:Int)) s0=S45.one L.length (prK L) (fQ p L) (t:Int) s x:=by rw[ex,iM,es];rfl
   rw[eS];clear eS ex es xr hx hd o x1 x3;obtain⟨row,tab⟩:=x;have rl:row.length<=40:=rl;have tl:tab.length<=64:=tl;have ti:∀ws∈tab,ws∈bQ p:=ti;have kd:∀ {X:Cx}{sd:List Slot}{e:Expr},PEd X sd e (.val (.tup<|tab.map bJ))->PEd X sd e (.val ((hkN P w).dat<|tbK tab)):=λh=>PEd.cast h (by rw[show(hkN P w).dat (tbK tab)=D.tup ((tbK tab).map tD) from rfl,aNK])
   have inj:decide (tab∈s.1.map λx=>x.2.2)=true↔tbK tab∈ksE s.1:=by
    rw[decide_eq_true_iff]
    constructor
    ·intro h;obtain⟨e,e1,e2⟩:=aQ.mp h;exact aQ.mpr ⟨e,e1,by rw[e2]⟩
    ·intro h;obtain⟨e,e1,e2⟩:=aQ.mp h;exact aQ.mpr ⟨e,e1,tK e2⟩
   refine⟨[.val<|cK p,.val<|lK L,.val<|.int 500,.val<|.lst (L.map<|mgD P w K p),.val (.tup<|(bQ p).map bJ),oLy K l3 (t:Int) (lyT s) kvs ls,oG (hkN P w) K l4 (ksE s.1)<|s.1.map λ_=>.bl true,.own l7<|cnD p L t,.val<|.int (t:Int),.val (.tup<|tab.map bJ),.un,.un],pgN 9, ?_⟩;refine aX<|gJ (k:= !decide (tab∈s.1.map λx=>x.2.2)&&decide (((ksE s.1).length:Int)<=500)) (PWd.pt<|kS (k:= !decide (tab∈s.1.map λx=>x.2.2)) (j:=decide<|((ksE s.1).length:Int)<=500) (aAT (hk:=hkN P w) (k:=tbK tab) inj hu (kd<|pdv 9) (uF 6 rfl<|pv 6)) λ_=>lB (kM (g:=λi j=>decide<|i<=j) wC (ln rfl) (pdv 2)<|fR _)) (λh=> ?_) λh=> ?_
   ·rw[bC] at h;have n1:tab∉s.1.map λx=>x.2.2:=by simpa using h.1
    have n2:s.1.length<=500:=by have:=of_decide_eq_true h.2;unfold ksE at this;rw[aA] at this;omega
    have nk:tbK tab∉ksE s.1:=λz=>n1 (of_decide_eq_true<|inj.mpr z)
    have e1:S45.one L.length (prK L) (fQ p L) (t:Int) s (row,tab)=(s.1++[((t:Int),row,tab)],S45.put (prK L) (fQ p L) t row tab L.length s.2):=by unfold S45.one;rw[if_pos ⟨n1,n2⟩]
    rw[e1];clear e1 inj h;refine aH<|qG (hk:=hkN P w) (k:=tbK tab) (d:=.bl true) 6 hu rfl (pv 6) vR (kd<|pdv 9) nk (by rw[aA];omega) ?_
    have ek:ksE s.1++[tbK tab]=ksE (s.1++[((t:Int),row,tab)]):=by unfold ksE;rw[aW];rfl
    have ev:(s.1.map λ_=>D.bl true)++[D.bl true]=(s.1++[((t:Int),row,tab)]).map λ_=>D.bl true:=by rw[aW];rfl
    rw[ek,ev];refine aX<|fM (ds:=gR 0 L.length) (λm sd=>∃kvs' ls,kvs'.length<=kvs.length+m/\sd=[.val<|cK p,.val<|lK L,.val<|.int 500,.val<|.lst (L.map<|mgD P w K p),.val (.tup<|(bQ p).map bJ),oLy K l3 (t:Int) (λj=>(S45.put (prK L) (fQ p L) t row tab m s.2 j).map tlD) kvs' ls,oG (hkN P w) K l4 (ksE<|s.1++[((t:Int),row,tab)])<|(s.1++[((t:Int),row,tab)]).map λ_=>.bl true,.own l7<|cnD p L t,.val<|.int (t:Int),.val (.tup<|tab.map bJ),.un,.un]) (iR (n:=L.length) rfl zrange (PEd.ic (mS rfl zlen (PEd.bor<|pdv 1))<|by rw[aA])<|by omega) ⟨_,Le.refl _,kvs,ls,aP _,rfl⟩ (λm d sdm hd hm=> ?_) λsdn hn=> ?_
    ·obtain⟨kvs',ls,hk',rfl⟩:=hm;obtain⟨ml,rfl⟩:=iK hd;rw[oS];have pl1:=S45.put_len (pr:=prK L) (beh:=fQ p L) (t:Int) row tab s.2 m;have b1:=b<|(t:Int)+prK L m;have b2:L.length*s.1.length<=8*s.1.length:=kY _ l8;have p1:=pl1<|(t:Int)+prK L m;have gm:=hpr m ml;have sk1:(L.map skD)[m]? =some (skD<|L.getD m AN):=aGT ml
     have mv1:(L.map<|mgD P w K p)[m]? =some (mgD P w K p<|L.getD m AN):=by rw[aS];simp[cB,ml]
     have eB:fQ p L m tab=tab.map (onQ p (L.getD m AN).1):=rfl;have eP:prK L m=(L.getD m AN).2:=rfl
     have eU:(λj=>(S45.put (prK L) (fQ p L) t row tab (m+1) s.2 j).map tlD)=lH (λj=>(S45.put (prK L) (fQ p L) t row tab m s.2 j).map tlD) ((t:Int)+prK L m) ((S45.put (prK L) (fQ p L) t row tab m s.2<|(t:Int)+prK L m).map tlD++[tlD (row++[m],fQ p L m tab)]):=funext λj=>by
      show(if j=(t:Int)+prK L m then S45.put (prK L) (fQ p L) t row tab m s.2 j++[(row++[m],fQ p L m tab)] else S45.put (prK L) (fQ p L) t row tab m s.2 j).map tlD=if j=(t:Int)+prK L m then _ else _
      split
      ·next z=>rw[z,aW];rfl
      ·rfl
     rw[eU];generalize S45.put (prK L) (fQ p L) t row tab m s.2=ly at p1;generalize L.getD m AN=sk at sk1 mv1 eB eP;rw[eB];refine⟨[.val<|cK p,.val<|lK L,.val<|.int 500,.val<|.lst (L.map<|mgD P w K p),.val (.tup<|(bQ p).map bJ),oLy K l3 (t:Int) (λj=>(ly j).map tlD) kvs' ls,oG (hkN P w) K l4 (ksE<|s.1++[((t:Int),row,tab)])<|(s.1++[((t:Int),row,tab)]).map λ_=>.bl true,.own l7<|cnD p L t,.val<|.int (t:Int),.val (.tup<|tab.map bJ),.val<|.int (m:Int),.un],pgN 10, ?_⟩
     have ec:((tab.map bJ).filter λ_=>true).map (λd=>bJ (onQ p sk.1<|lR d))=(tab.map<|onQ p sk.1).map bJ:=by
      rw[cN.mpr λ_ _=>rfl,bB,bB];refine bW λws _=> ?_
      show bJ (onQ p sk.1 (lR<|bJ ws))=_;rw[jV];rfl
     refine aH<|iG (d:=.tup<|(tab.map<|onQ p sk.1).map bJ) 11 (kZ rfl ztuple (PEd.bor<|PEd.val (PEd.cast (jL (ds:=tab.map bJ) (N:=nl12) (M:=aNm) (cap:=[none,some 3,some 10]) (sc:=bD aNa) (Tb:=λd=>[.val d,.val<|.lst (L.map<|mgD P w K p),.val<|.int (m:Int)]) (λ_=>true) (λd=>bJ (onQ p sk.1<|lR d)) (mX<|pdv 9) (by rw[aA];omega) rfl (by decide+kernel) rfl (by decide+kernel) rfl (λcl C fp s H d hd=>pgN 0) (λd hd=>⟨.inl rfl,.inr rfl,.inr rfl,trivial⟩) (λcl C fp s H d hd=>.inl ⟨rfl,rfl⟩) λcl C2 fp s H d hd _=> ?_)<|by rw[ec]))) ?_
     ·obtain⟨ws,hw,rfl⟩:=uZ hd;obtain⟨i,hi⟩:=cX<|ti ws hw;rw[jV];exact zK (hk:=hkT P w) (k:=inK ws) (n:=i) (d:=bJ<|onQ p sk.1 ws) hu (rH<|jU (n:=m) (PEd.bor<|pdv 1) (pdv 2) mv1 λ_ _=>rfl) (PEd.cast (pdv 0)<|by rw[show(hkT P w).dat (inK ws)=tD (inK ws) from rfl,aIj]) (by rw[aS,hi];rfl) (by rw[aS,hi];rfl) λ_ _=>rfl
     refine aX<|aDM (k:=(t:Int)+prK L m) (d:=tlD (row++[m],tab.map<|onQ p sk.1)) 5 rfl (pv 5) (gF iI (pdv 8)<|PEd.ic (pdx (n:=1) (ds:=[sqD sk.1,.int sk.2]) (d:=.int sk.2)<|jU (n:=m) (PEd.bor<|pdv 1) (pdv 10) sk1 λ_ _=>rfl) eP.symm) (λz=>kJ 11 rfl<|pv 11) (by omega) (by omega) ?_ λkvs2 ls2 hk2=> ?_
     ·show((ly<|(t:Int)+prK L m).map tlD).length<=100000;rw[aA];omega
     ·exact⟨[.val<|cK p,.val<|lK L,.val<|.int 500,.val<|.lst (L.map<|mgD P w K p),.val (.tup<|(bQ p).map bJ),oLy K l3 (t:Int) (lH (λj=>(ly j).map tlD) ((t:Int)+prK L m)<|(ly<|(t:Int)+prK L m).map tlD++[tlD (row++[m],tab.map<|onQ p sk.1)]) kvs2 ls2,oG (hkN P w) K l4 (ksE<|s.1++[((t:Int),row,tab)])<|(s.1++[((t:Int),row,tab)]).map λ_=>.bl true,.own l7<|cnD p L t,.val<|.int (t:Int),.val (.tup<|tab.map bJ),.un,.un],⟨.inr rfl,.inr rfl,.inr rfl,.inr rfl,.inr rfl,.inr rfl,.inr rfl,.inr rfl,.inr rfl,.inr rfl,.inl rfl,.inl rfl,trivial⟩,kvs2,ls2,by omega,rfl⟩
    ·obtain⟨kvs',ls,hk',rfl⟩:=hn;rw[gI] at hk' ⊢;exact⟨[.val<|cK p,.val<|lK L,.val<|.int 500,.val<|.lst (L.map<|mgD P w K p),.val (.tup<|(bQ p).map bJ),oLy K l3 (t:Int) (lyT (s.1++[((t:Int),row,tab)],S45.put (prK L) (fQ p L) t row tab L.length s.2)) kvs' ls,oG (hkN P w) K l4 (ksE<|s.1++[((t:Int),row,tab)])<|(s.1++[((t:Int),row,tab)]).map λ_=>.bl true,.own l7<|cnD p L t,.val<|.int (t:Int),.un,.un,.un],⟨.inr rfl,.inr rfl,.inr rfl,.inr rfl,.inr rfl,.inr rfl,.inr rfl,.inr rfl,.inr rfl,.inl rfl,.inr rfl,.inr rfl,trivial⟩,kvs',ls,_,rfl,by show _<=1+8*(s.1++[_]).length;rw[aN];show _<=1+8*(s.1.length+1);omega,rfl⟩
   ·have e1:S45.one L.length (prK L) (fQ p L) (t:Int) s (row,tab)=s:=by
     unfold S45.one;refine if_neg λz=> ?_
     have:(!decide (tab∈s.1.map λx=>x.2.2)&&decide (((ksE s.1).length:Int)<=500))=true:=by rw[bC];refine⟨by simpa using z.1,decide_eq_true ?_⟩;unfold ksE;rw[aA];have:=z.2;omega
     rw[this] at h;cases h
    rw[e1];exact cW ⟨[.val<|cK p,.val<|lK L,.val<|.int 500,.val<|.lst (L.map<|mgD P w K p),.val (.tup<|(bQ p).map bJ),oLy K l3 (t:Int) (lyT s) kvs ls,oG (hkN P w) K l4 (ksE s.1)<|s.1.map λ_=>.bl true,.own l7<|cnD p L t,.val<|.int (t:Int),.un,.un,.un],⟨.inr rfl,.inr rfl,.inr rfl,.inr rfl,.inr rfl,.inr rfl,.inr rfl,.inr rfl,.inr rfl,.inl rfl,.inr rfl,.inr rfl,trivial⟩,kvs,ls,s,rfl,hkv,rfl⟩
  ·obtain⟨kvs,ls,s,es,hkv,rfl⟩:=hn;have e1:(lyT s0 (t:Int)).length=(s0.2 (t:Int)).length:=by unfold lyT;rw[aA]
   rw[e1,eI] at es;subst es;rw[aJI,eR'];generalize ((s0.2 (t:Int)).foldl (S45.one L.length (prK L) (fQ p L) (t:Int)) s0)=s at hkv;refine aX<|nI (d:=.int (s.1.length:Int)) 7 rfl (pv 7) (PEd.ic (ln rfl)<|by unfold ksE;rw[aA]) (by rw[cl];omega) ⟨[.val<|cK p,.val<|lK L,.val<|.int 500,.val<|.lst (L.map<|mgD P w K p),.val (.tup<|(bQ p).map bJ),oLy K l3 (t:Int) (lyT s) kvs ls,oG (hkN P w) K l4 (ksE s.1)<|s.1.map λ_=>.bl true,.own l7<|cnD p L t++[.int (s.1.length:Int)],.un,.un,.un,.un],⟨.inr rfl,.inr rfl,.inr rfl,.inr rfl,.inr rfl,.inr rfl,.inr rfl,.inr rfl,.inl rfl,.inr rfl,.inr rfl,.inr rfl,trivial⟩,(t:Int),kvs,ls,by omega,hkv,rfl⟩
 ·obtain⟨q,kvs,ls,hq,hkv,rfl⟩:=hn;rw[gI];exact aX<|lG 7 rfl (pv 7) rfl
noncomputable def tH:D->D
 |.tup [a,_]=>a
 |d=>d
noncomputable def aNG:D->List Slot
 |.tup [a,b]=>[.val a,.val b]
 |_=>[.un,.un]
abbrev aNC:List Str:=["_law_script","_law_size","_law_kit","_law_dear","_law_k","_law_cell","_law_step"]
theorem aID(F:FI K mg "_law_great_kit" sGk)(zrange:mg "range"=none)(zint:mg "int"=none)(GC:bG P w K mg base "_law_cell_at" 1 2 aIk)(GM:bG P w K mg base "_law_mixed" 1 2 CMx)(GD:bG P w K mg base "_law_drawn" 2 2 aLo):bG P w K mg base "_law_great_kit" 3 2 aKZ:=by
 have nd3:(["_law_one","_law_price"]:List Str).Nodup:=by decide+kernel
 refine cS (N:=aNC) (ps:=["_law_script","_law_size"]) (k:=2) F λf nd cdv A outer s H E hr ds r hl c=> ?_
 obtain⟨p,ns,hp,rfl,rfl⟩:=c;have hu:=uN hr 4;have m5:aKm ns=5+(mxS (ns.getD 1 0) 7%2).toNat:=rfl;have m8:aKm ns<=8:=by omega
 have q0:=eW (mxS (ns.getD 1 0) 7) (show(2:Int)≠0 by decide);have mx1:∀ {sd:List Slot}{p1 p2 p3 p4 p5 p6 p7:Pos}{j1 j2:Nat} (k:Nat),k<=400->sd[0]? =some (.val<|.scr ns)->PEd (jP CX0 P w K mg base aNC "_law_great_kit" (bD sGk) f cdv A outer s H E).nox sd (.Call (.Name "_law_mixed" p1) [.Call (.Name "_law_cell_at" p2) [.Name "_law_script" p3, .Constant (.int 1) j1 p4] [] p5, .Constant (.int (k:Int)) j2 p6] [] p7) (.val (.int<|mxS (ns.getD 1 0) k)):=λk hk hs=>pdc (ds:=[.int<|ns.getD 1 0,.int (k:Int)]) GM hr (aC (pdc (ds:=[.scr ns,.int ((1:Nat):Int)]) GC hr (aC (kJ 0 hs<|pv 0)<|aC bX aO) ⟨ns,1,rfl,by omega,rfl⟩)<|aC bX aO) ⟨_,k,rfl,hk,rfl⟩
 refine aH<|pK (ds:=([]:List SK).map skD) 2 (oM (ds:=[]) aO<|bP _) λl3=> ?_;refine aH<|iG (d:=.bl (decide<|mxS (ns.getD 1 0) 6%5=1)) 3 (aCL (dY gP (mx1 6 (by decide) rfl) bX<|by decide) bX) ?_;unfold aKl;generalize decide (mxS (ns.getD 1 0) 6%5=1)=dr;generalize aKm ns=M at m5 m8;refine aH<|fM (ds:=gR 0 M) (λt sd=>sd=[.val<|.scr ns,.val<|cK p,.own l3<|(gkN p ns dr t).map skD,.val<|.bl dr,.un,.un,.un]) (iR (n:=M) rfl zrange (PEd.ic (gF iI bX (dY gP (mx1 7 (by decide) rfl) bX<|by decide))<|by omega)<|by omega) ⟨_,Le.refl _,rfl⟩ (λt d sdt hd ht=> ?_) λsdn hn=> ?_
 ·subst ht;obtain⟨ht,rfl⟩:=iK hd;rw[oS];refine⟨[.val<|.scr ns,.val<|cK p,.own l3<|(gkN p ns dr t).map skD,.val<|.bl dr,.val<|.int (t:Int),.un,.un],pgN 4, ?_⟩;have ll:(gkN p ns dr t).length<=8:=cG (aCw hp ns dr t).1 (by omega);have eN:gkN p ns dr (t+1)=if wM (gkN p ns dr t) (drQ p<|ns.getD (2+t) 0+(t:Int)) then gkN p ns dr t else gkN p ns dr t++[(drQ p<|ns.getD (2+t) 0+(t:Int),prG dr<|ns.getD (2+t) 0+(t:Int))]:=rfl
  rw[eN];refine aH<|iG (d:=.int<|ns.getD (2+t) 0+(t:Int)) 5 (gF iI (pdc (ds:=[.scr ns,.int ((2+t:Nat):Int)]) GC hr (aC (pdv 0)<|aC (PEd.ic (gF iI bX<|pdv 4)<|by omega) aO) ⟨ns,2+t,rfl,by omega,rfl⟩)<|pdv 4) ?_;generalize ns.getD (2+t) 0+(t:Int)=x;generalize gkN p ns dr t=L at *;refine aH<|iG (d:=sqD<|drQ p x) 6 (pdc (ds:=[cK p,.int x]) GD hr (aC (pdv 1)<|aC (pdv 5) aO) ⟨p,x,hp,rfl,rfl⟩) ?_;generalize drQ p x=q
  have plc:plL ((L.map skD).map tH)=true/\iQ ((L.map skD).map tH)<=1:=by rw[bB];exact⟨aDD (λs:SK=>tH<|skD s) (λs=>aKH s.1) _,aAQ (λs:SK=>tH<|skD s) 1 (λs=>aEY<|aLH s.1) _⟩
  have ef:((L.map skD).filter λ_=>true).map tH=(L.map skD).map tH:=by rw[cN.mpr λ_ _=>rfl]
  have es:((L.map skD).map tH).any (λz=>deq z<|sqD q)=wM L q:=by unfold wM;rw[bB];rfl
  refine aX<|gJ (k:= !wM L q) (PTd.lend 2 rfl (aLp rfl) (PTd.cast (aAS (pdv 6) (PEd.val (PEd.cast (jL (ds:=L.map skD) (N:=["_law_one","_law_price"]) (M:=aNC) (cap:=[none,none]) (sc:=bD sGk) (Tb:=aNG) (λ_=>true) tH (fK<|pdv 2) (by rw[aA];omega) rfl (by decide+kernel) rfl (by decide+kernel) rfl (λcl C fp s H d hd=> ?_) (λd hd=> ?_) (λcl C fp s H d hd=>.inl ⟨rfl,rfl⟩) λcl C fp s H d hd _=> ?_)<|by rw[ef])) (aKH q) plc.1<|by have:=plc.2;show(A.deeper<|Ar "_law_great_kit" (bD sGk) s.heap.objs.size f cdv).units+1+_<AO;omega)<|by rw[es])) (λh=> ?_) λh=> ?_
  ·obtain⟨s,_,rfl⟩:=aQ.mp hd;exact jX (js:=[0,1]) rfl (dZ (pgn 0)<|dZ (pgn 1) jY) rfl rfl
  ·obtain⟨s,_,rfl⟩:=aQ.mp hd;exact⟨.inl rfl,.inl rfl,trivial⟩
  ·obtain⟨s,_,rfl⟩:=aQ.mp hd;exact(pdv 0)
  ·have h':wM L q=false:=by simpa using h
   rw[h'];have ep:([.int<|1+mxS x 5%2,.int 9]:List D)[(if dr=true then(1:Int) else 0).toNat]? =some (.int<|prG dr x):=by cases dr<;>rfl
   have e0:(0:Int)<=if dr=true then(1:Int) else 0:=by split<;>decide
   refine aX<|nI (d:=skD (q,prG dr x)) 2 rfl (pv 2) (pdT (ds:=[sqD q,.int<|prG dr x]) (aC (pdv 6)<|aC (aAk (i:=if dr=true then(1:Int) else 0) (ds:=[.int<|1+mxS x 5%2,.int 9]) (PEd.bor (PEd.val<|pdL (ds:=[.int<|1+mxS x 5%2,.int 9]) (aC (gF iI bX (dY gP (pdc (ds:=[.int x,.int ((5:Nat):Int)]) GM hr (aC (pdv 5)<|aC bX aO) ⟨_,5,rfl,by omega,rfl⟩) bX<|by decide))<|aC bX aO))) (aDF rfl zint<|pdv 3) e0 ep λ_ _=>rfl) aO)) (by rw[aA];omega) ⟨[.val<|.scr ns,.val<|cK p,.own l3<|(L++[(q,prG dr x)]).map skD,.val<|.bl dr,.un,.un,.un],⟨.inr rfl,.inr rfl,.inr ?_,.inr rfl,.inl rfl,.inl rfl,.inl rfl,trivial⟩,rfl⟩;rw[aW];rfl
  ·have h':wM L q=true:=by simpa using h
   rw[h'];exact cW<|nxt (b:=[.val<|.scr ns,.val<|cK p,.own l3<|L.map skD,.val<|.bl dr,.un,.un,.un]) rfl
 ·subst hn;rw[gI];exact aX<|lG 2 rfl (pv 2) rfl
theorem aGr{CN:BG}(F:FI K mg "_law_refused" aOU)(zisinstance:mg "isinstance"=none)(xk:aNf K mg CN)(GB:bG P w K mg base "least_row" 7 4 aHY/\jK P w K mg base "least_row" 7 4 aIl (.ref CN) [] []):bG P w K mg base "_law_refused" 8 4 aHy:=by
 refine cS (N:=["_law_size","_law_kit","_law_bound","_law_wish","_law_refused_here","e"]) (ps:=["_law_size","_law_kit","_law_bound","_law_wish"]) (k:=7) F λf nd cdv A outer s H E hr ds r hl c=> ?_
 obtain⟨p,L,b,ws,hp,S,dn,g,W,rfl,rfl⟩:=c;obtain⟨CL,k0⟩:=xk.le;obtain⟨C1,k1⟩:=xk.nc;obtain⟨C2,k2⟩:=xk.nt;obtain⟨C3,k3⟩:=xk.nd;obtain⟨C4,k4⟩:=xk.ns;refine aH<|iG (d:=.bl false) 4 vR ?_;refine aH<|aIJ (cls:=.ref CN) 5 nd rfl rfl rfl xk.nw.1 xk.nw.2 (λξ pn F0 tk=> ?_) λa oe pn hp' hc=> ?_
 ·exact aX<|aEz (aFZ (ds:=[cK p,lK L,.int b,.lst<|ws.map wsD]) (dds:=[]) GB.2 (aEM rfl) hr rfl (aC (pdv 0)<|aC (pdv 1) (aC (pdv 2)<|aC (pdv 3) aO)) (λ_=>RepL.nil) ⟨p,L,b,ws,hp,S,dn,g,W,rfl⟩ rfl<|Takes.o tk)
 ·refine aH<|iG (d:=.bl true) 4 (mP (k:=true) (j:=true) (aFQ 5 hp' hc xk.xc rfl zisinstance rfl k0.1 k0.2 rfl<|pv 5) λ_=>oH (aEN 5 hp' hc xk.xc rfl zisinstance rfl xk.ve.1 aGc xk.ve.2 rfl<|pv 5)) ?_;refine aX<|iG (d:=.bl true) 4 (mP (k:=true) (j:=true) (pdv 4) λ_=>oH<|aHq (k:=false) (aEq 5 hp' hc xk.xc rfl zisinstance rfl k1.1 rfl k2.1 rfl k3.1 rfl k4.1 (aFP k1.2 k2.2 k3.2 k4.2) rfl<|pv 5)) ?_;exact aX (kF<|pdv 4)
noncomputable def aOO:D->Nat
 |.int i=>i.toNat
 |_=>0
theorem aIF{α:Type}(q:List α)(a:α):atI (q++[a]) (-1)=some a:=by
 have e:ixN (q++[a]).length (-1)=some q.length:=by unfold ixN;rw[if_neg<|by decide,aN,if_pos<|by show -((q.length+1:Nat):Int)<= -1;omega];refine congrArg some ?_;show(-1+((q.length+1:Nat):Int)).toNat=_;omega
 unfold atI;rw[e];simp
set_option maxHeartbeats 2000000 in
abbrev nl15:List Str:=["_law_script","_law_size","_law_kit","_law_counts_here","_law_bound","_law_way","_law_zero","_law_wish","_law_found","_law_only"]
abbrev nl16:List Str:=["_law_filling","_law_zero","_law_way"]
theorem aMv{CN:BG}(F:Fun K "law" "law" pO f fd)(zint:mg "int"=none)(zrange:mg "range"=none)(zlen:mg "len"=none)(zisinstance:mg "isinstance"=none)(ztuple:mg "tuple"=none)(GC:bG P w K mg base "_law_cell_at" 1 2 aIk)(GM:bG P w K mg base "_law_mixed" 1 2 CMx)(GF:bG P w K mg base "_law_fillings" 1 1 aAC)(GK:bG P w K mg base "_law_great_kit" 3 2 aKZ)(GN:bG P w K mg base "_law_counts" 4 3 aGP)(GL:bG P w K mg base "least_row" 7 4 aHY/\jK P w K mg base "least_row" 7 4 aIl (.ref CN) [] [])(GR:bG P w K mg base "_law_refused" 8 4 aHy)(GS:bG P w K mg base "shows_none" 7 5 aLs):FnOk P w K mg base CX0 9 f fd ["_law_script"] (spC K 1 aMX):=by
 have nd:nl15.Nodup:=by decide+kernel
 have nd2:(["_law_price","_law_counts_here"]:List Str).Nodup:=by decide+kernel
 have nd3:nl16.Nodup:=by decide+kernel
 refine aHf (N:=nl15) (ps:=["_law_script"]) (k:=8) F ⟨rfl,rfl,rfl,nd,rfl,by decide+kernel,by decide+kernel⟩ λcdv A outer s H E hr ds r hl c=> ?_
 obtain⟨ns,rfl,hns,rfl⟩:=c;have hr7:=hr.mono (show 7<=8 by decide);have hu:=uN hr 8;have hp:=aMz ns;obtain⟨S,dn⟩:=aKc hp ns
 have eS:([cK (1,3),cK (3,1)]:List D)[(if decide (mxS (ns.getD 0 0) 1%4=1)=true then(1:Int) else 0).toNat]? =some (cK<|gkP ns):=by
  unfold gkP
  by_cases h3:mxS (ns.getD 0 0) 1%4=1
  ·rw[if_pos h3,if_pos<|decide_eq_true h3];rfl
  ·rw[if_neg h3,if_neg<|by simpa using h3];rfl
 refine aH<|iG (d:=cK<|gkP ns) 1 (aAk (i:=if decide (mxS (ns.getD 0 0) 1%4=1)=true then(1:Int) else 0) (ds:=[cK (1,3),cK (3,1)]) (PEd.bor (PEd.val<|pdL (ds:=[cK (1,3),cK (3,1)]) (aC (pdT (ds:=[.int 1,.int 3]) (aC bX<|aC bX aO))<|aC (pdT (ds:=[.int 3,.int 1]) (aC bX<|aC bX aO)) aO))) (aDF rfl zint<|aCL (dY gP (pdc (ds:=[.int<|ns.getD 0 0,.int ((1:Nat):Int)]) GM hr (aC (pdc (ds:=[.scr ns,.int ((0:Nat):Int)]) GC hr (aC (pdv 0)<|aC bX aO) ⟨ns,0,rfl,by omega,rfl⟩)<|aC bX aO) ⟨_,1,rfl,by omega,rfl⟩) bX<|by decide) bX) (by split<;>decide) eS λ_ _=>rfl) ?_;refine aH<|pK (ds:=(aKl (gkP ns) ns).map skD) 2 (pdc (ds:=[.scr ns,cK<|gkP ns]) GK hr (aC (pdv 0)<|aC (pdv 1) aO) ⟨_,ns,hp,rfl,rfl⟩) λl2=>iB 2 rfl ?_;clear eS;generalize aKl (gkP ns) ns=L at S dn;generalize gkP ns=p at hp S;obtain⟨b,q,eQ,b40,few,many⟩:=aOk p L
 have cn:∀t,t<41->(cnD p L 41)[t]? =some (.int ((iC p L<|t+1).1.length:Int)):=λt ht=>by unfold cnD;rw[aS,qE ht];rfl
 have cl:(cnD p L 41).length=41:=by unfold cnD;rw[aA,fN]
 obtain⟨Ft,bl⟩:=(aHx hp S (b:=b)<|by omega).1 few;have gr:∀t:Nat,b<t->t<=40->Gr p L (t:Int):=λt h1 h2=>⟨by omega,(aHx hp S (b:=t)<|by omega).2<|many t h1 h2⟩
 refine aH<|pK (ds:=cnD p L 41) 3 (pdc (ds:=[cK p,lK L,.int 500]) GN hr (aC (pdv 1) (aC (pdv 2)<|aC bX aO)) ⟨p,L,hp,S,rfl,rfl⟩) λl3=>iB 3 rfl ?_
 have ec:((gR 0 41).filter λd=>decide<|(iC p L<|aOO d+1).1.length<=500).map id=(q++[b]).map λ(t:Nat)=>D.int (t:Int):=by
  rw[kR,<-eQ];unfold gR fwQ;have e0:(λ(k:Nat)=>D.int<|0+(k:Int))=λ(k:Nat)=>D.int (k:Int):=funext λk=>by rw[oS]
  rw[e0,aKx];refine congrArg _<|aHM λk _=> ?_;show decide ((iC p L<|(k:Int).toNat+1).1.length<=500)=_;rw[dX]
 refine aH<|iG (d:=.int (b:Int)) 4 (aKd (i:= -1) (ds:=(q++[b]).map λ(t:Nat)=>D.int (t:Int)) (PEd.bor<|PEd.val (PEd.cast (jL (ds:=gR 0 41) (N:=["_law_price","_law_counts_here"]) (M:=nl15) (cap:=[none,some 3]) (sc:=bD pO) (Tb:=λd=>[.val d,.val (.lst<|cnD p L 41)]) (λd=>decide<|(iC p L<|aOO d+1).1.length<=500) id (iR (n:=41) rfl zrange bX<|by decide) (fB rfl) rfl (by decide+kernel) rfl (by decide+kernel) rfl (λcl C fp s H d hd=>pgN 0) (λd hd=>⟨.inl rfl,.inr rfl,trivial⟩) (λcl C fp s H d hd=>.inr ⟨_,rfl, ?_⟩) λcl C2 fp s H d hd _=>(pdv 0))<|by rw[ec])) (aMB bX) (by rw[aW];exact aIF _ _) λ_ _=>rfl) ?_
 ·obtain⟨t,ht⟩:=cX hd;obtain⟨tl,rfl⟩:=iK ht;rw[oS];refine PTd.cast (kM wC (jU (n:=t) (PEd.bor<|pdv 1) (pdv 0) (cn t tl) λ_ _=>rfl) bX<|fR _) ?_;show decide (((iC p L<|t+1).1.length:Int)<=500)=decide ((iC p L<|(t:Int).toNat+1).1.length<=500);rw[dX];exact decide_eq_decide.mpr<|by omega
 obtain⟨k,hk,k3⟩:∃k:Nat,ns.getD 9 0%3=(k:Int)/\k<3:=⟨(ns.getD 9 0%3).toNat,by omega,by omega⟩;have f9:(bQ p).length<=64:=jB hp;obtain⟨s1,s2,s3,s4,s5⟩:=vT p hp
 have f0:0<(bQ p).length:=by unfold bQ;rw[rL,<-Nat.pow_mul];exact Nat.two_pow_pos _
 have lf:∀ {sd:List Slot}{p1 p2 p3:Pos},sd[1]? =some (.val<|cK p)->PEd (jP CX0 P w K mg base nl15 "law" (bD pO) f cdv A outer s H E).nox sd (.Call (.Name "_law_fillings" p1) [.Name "_law_size" p2] [] p3) (.own<|(bQ p).map bJ):=λh1=>pdc (ds:=[cK p]) GF hr (aC (kJ 1 h1<|pv 1) aO) ⟨p,hp,rfl,rfl⟩
 refine aH<|iG (d:=.int (k:Int)) 5 (PEd.ic (dY gP (pdc (ds:=[.scr ns,.int ((9:Nat):Int)]) GC hr (aC (pdv 0)<|aC bX aO) ⟨ns,9,rfl,by omega,rfl⟩) bX<|by decide) hk) ?_;refine aH<|iG (d:=bJ<|(bQ p).getD 0 []) 6 (jU (n:=0) (PEd.bor (PEd.val<|lf rfl)) bX (zC f0) λ_ _=>rfl) ?_
 have ew:(((bQ p).map bJ).filter λ_=>true).map (λd=>wsD (w55 p k<|lR d))=(tS p k).map wsD:=by
  rw[cN.mpr λ_ _=>rfl,bB];unfold tS;rw[bB];refine bW λf _=> ?_
  show wsD (w55 p k (lR<|bJ f))=_;rw[jV];rfl
 refine aH<|aGm (ds:=(bQ p).map bJ) 7 (N:=nl16) (M:=nl15) (cap:=[none,some 6,some 5]) (sc:=bD pO) (Tb:=λd=>[.val d,.val (bJ<|(bQ p).getD 0 []),.val<|.int (k:Int)]) (λ_=>true) (λd=>wsD (w55 p k<|lR d)) rfl nd rfl rfl rfl (fK (PEd.val<|lf rfl)) (by rw[aA];omega) rfl (by decide+kernel) rfl (by decide+kernel) rfl (λcl C fp s H d hd=>pgN 0) (λd hd=>⟨.inl rfl,.inr rfl,.inr rfl,trivial⟩) (λcl C fp s H d hd=>.inl ⟨rfl,rfl⟩) (λcl C2 fp s H d hd _=> ?_) λl7=>iB 7 rfl ?_
 ·obtain⟨g,hg,rfl⟩:=uZ hd;rw[jV]
  have eg:([.non,.lst [bJ g],.lst [bJ<|(bQ p).getD 0 []]]:List D)[k]? =some (wsD<|w55 p k g):=by
   have:k=0\/k=1\/k=2:=by omega
   rcases this with rfl|rfl|rfl<;>rfl
  exact jU (n:=k) (PEd.bor<|PEd.val (pdL (ds:=[.non,.lst [bJ g],.lst [bJ<|(bQ p).getD 0 []]])<|aC lE (aC (PEd.val (pdL (ds:=[bJ g])<|aC (pdv 0) aO))<|aC (PEd.val (pdL (ds:=[bJ<|(bQ p).getD 0 []])<|aC (pdv 1) aO)) aO))) (pdv 2) eg λ_ _=>rfl
 rw[ew];have W:=aJo hp k;have O:=aGZ hp S Ft;have ek:k<2->lrD p (tS p k) (bkQ p L b)=.tup [.str "row",.tup [],.lst []]:=λh=>lr55 O S.pr (by omega) h
 obtain⟨fs,eF,pF,dF,cF⟩:=aNV (p:=p) (tS p k)<|bkQ p L b;have s0:(b:Int)<40->wD p L 40 [((0:Int),[],bQ p)]=false:=λh=>st55 hp S (many 40 (by omega)<|by omega)
 generalize tS p k=ws at W ek eF cF;have lr:∀ {sd:List Slot}{p1 p2 p3 p4 p5 p6:Pos},sd[1]? =some (.val<|cK p)->sd[2]? =some (.val<|lK L)->sd[4]? =some (.val<|.int (b:Int))->sd[7]? =some (.val (.lst<|ws.map wsD))->PEd (jP CX0 P w K mg base nl15 "law" (bD pO) f cdv A outer s H E).nox sd (.Call (.Name "least_row" p1) [.Name "_law_size" p2, .Name "_law_kit" p3, .Name "_law_bound" p4, .Name "_law_wish" p5] [] p6) (.val<|.tup fs):=λh1 h2 h4 h7=>pdc (ds:=[cK p,lK L,.int (b:Int),.lst<|ws.map wsD]) GL.1 hr7 (aC (kJ 1 h1<|pv 1)<|aC (kJ 2 h2<|pv 2) (aC (kJ 4 h4<|pv 4)<|aC (kJ 7 h7<|pv 7) aO)) ⟨p,L,b,ws,hp,S,dn,Ft,W,rfl,by rw[eF]⟩
 refine aH<|iG (d:=.tup fs) 8 (lr rfl rfl rfl rfl) ?_;rw[eF] at ek;have c1:=cn b<|by omega
 have e1:(decide ((k:Int)<2)&&!deq (.tup fs) (.tup [.str "row",.tup [],.lst []]))=false:=by
  by_cases h:k<2
  ·rw[ek h,oB _ rfl];simp
  ·rw[decide_eq_false<|by omega];rfl
 refine aH (fA (k:=decide ((k:Int)<2)&&!deq (.tup fs) (.tup [.str "row",.tup [],.lst []])) (PWd.pt<|kS (k:=decide<|(k:Int)<2) (j:= !deq (.tup fs) (.tup [.str "row",.tup [],.lst []])) (kM wR (pdv 5) bX<|fR _) λ_=>lB (aDB (ra:=.val<|.tup fs) (rb:=.val<|.tup [.str "row",.tup [],.lst []]) (pdv 8) (pdT (ds:=[.str "row",.tup [],.lst []])<|aC dA (aC (pdT (ds:=[]) aO)<|aC (PEd.val<|pdL (ds:=[]) aO) aO)) trivial trivial (.inl ⟨rfl,rfl⟩) pF rfl<|by show(A.deeper<|Ar "law" (bD pO) s.heap.objs.size f cdv).units+dep (.tup fs)+1<AO;omega)) e1<|cW ?_)
 have nx:PSd (jP CX0 P w K mg base nl15 "law" (bD pO) f cdv A outer s H E).nox [.val<|.scr ns,.val<|cK p,.val<|lK L,.val (.lst<|cnD p L 41),.val<|.int (b:Int),.val<|.int (k:Int),.val (bJ<|(bQ p).getD 0 []),.val (.lst<|ws.map wsD),.val<|.tup fs,.un] ((eO pO).drop 10) (rtE (R.val<|.bl true)):=by
  have e2:(decide ((b:Int)<40)&&!true)=false:=by simp
  refine aH (fA (k:=decide ((b:Int)<40)&&!true) (PWd.pt (kS (k:=decide<|(b:Int)<40) (j:= !true) (kM wR (pdv 4) bX<|fR _) λh=>lB<|nG (k:=true) (lQ<|pdc (ds:=[cK p,lK L,.int ((b+1:Nat):Int),.lst<|ws.map wsD]) GR hr (aC (pdv 1)<|aC (pdv 2) (aC (PEd.ic (gF iI (pdv 4) bX)<|by omega)<|aC (pdv 7) aO)) ⟨p,L,_,ws,hp,S,dn,gr (b+1) (by omega) (by have:=of_decide_eq_true h;omega),W,rfl,rfl⟩))) e2<|cW ?_);refine aH<|pK (ds:=([((0:Int),[],bQ p)]:List Bk).map enD) 9 (pdL (ds:=([((0:Int),[],bQ p)]:List Bk).map enD)<|aC (pdT (ds:=[.int 0,tN [],.tup<|(bQ p).map bJ])<|aC bX (aC (pdT (ds:=[]) aO)<|aC (kZ rfl ztuple<|PEd.bor (PEd.val<|lf rfl)) aO)) aO) λl9=>iB 9 rfl ?_;generalize hB:([((0:Int),[],bQ p)]:List Bk)=B1 at s0;have O1:BkOk p L 40 B1:=by rw[<-hB];exact aJr p L
  have e3:(decide ((b:Int)<40)&&!((wD p L 40 B1&&(ftQ p ws B1).isNone)==false))=false:=by
   by_cases h:(b:Int)<40
   ·rw[s0 h];simp
   ·rw[decide_eq_false h];rfl
  refine aH (fA (k:=decide ((b:Int)<40)&&!((wD p L 40 B1&&(ftQ p ws B1).isNone)==false)) (PWd.pt (kS (k:=decide<|(b:Int)<40) (j:= !((wD p L 40 B1&&(ftQ p ws B1).isNone)==false)) (kM wR (pdv 4) bX<|fR _) λh=>lB<|aBE (p:=wD p L 40 B1&&(ftQ p ws B1).isNone) (q:=false) (pdc (ds:=[cK p,lK L,.int 40,.lst<|ws.map wsD,.lst<|B1.map enD]) (r:=.val (.bl<|wD p L 40 B1&&(ftQ p ws B1).isNone)) GS hr7 (aC (pdv 1) (aC (pdv 2)<|aC bX (aC (pdv 7)<|aC (pdv 9) aO))) ⟨p,L,40,B1,ws,hp,S,dn,O1,by decide,W,rfl,rfl⟩) vR)) e3<|cW ?_);exact aX<|cY (PEd.cast (aHp (ra:=.val<|.tup fs) (rb:=.val<|.tup fs) (lr rfl rfl rfl rfl) (pdv 8) trivial trivial (.inl ⟨rfl,rfl⟩) pF pF<|by show(A.deeper<|Ar "law" (bD pO) s.heap.objs.size f cdv).units+dep (.tup fs)+1<AO;omega)<|by show R.val (.bl (deq (.tup fs)<|.tup fs))=_;rw[oB _ pF]) trivial rfl
 rcases cF with⟨e,_,rfl⟩|rfl
 ·exact aKn (PWd.pt<|mM (k:=false) (j:=false) (nG (k:=true) (lQ<|PEd.cast (uL rfl zisinstance rfl ztuple PyProof.Rows.boot_tuple (pdv 8) (λ_=>by simp)<|yK _ _) rfl)) λ_=>mO (PWd.pt<|kS (k:=false) (j:=true) (cP (pdx (n:=0) (d:=.str "row")<|pdv 8) dA rfl rfl rfl<|by decide) λh=>by cases h)) nx
 ·clear lr O ek pF dF e1;generalize bkQ p L b=B at bl nx ⊢;exact aKn (PWd.pt<|mM (k:=false) (j:=false) (nG (k:=true) (lQ<|PEd.cast (uL rfl zisinstance rfl ztuple PyProof.Rows.boot_tuple (pdv 8) (λ_=>by simp)<|yK _ _) rfl)) λ_=>mO (PWd.pt<|kS (k:=true) (j:=false) (cP (pdx (n:=0) (d:=.str "none")<|pdv 8) dA rfl rfl rfl<|decide_eq_true rfl) λ_=>lB (PTd.cast (aJd (mS rfl zlen<|PEd.bor (pdx (n:=1) (d:=.lst<|B.map enD)<|pdv 8))<|jU (n:=b) (PEd.bor<|pdv 3) (pdv 4) c1 λ_ _=>rfl)<|by rw[aA,bl];simp))) nx
end
theorem aAw{t1 t2 t3:Tok}:Vals [V.str "not",V.str "up",V.str "down"] (#[Value.str "not" t1,Value.str "up" t2,Value.str "down" t3]:Array BE).toList:=.cons ⟨_,rfl⟩ (.cons ⟨_,rfl⟩<|.cons ⟨_,rfl⟩ .nil)
theorem all_mk{P:AF}{w:AM}{K:aB}{h:BI}{mg:Str->Option BE}{fa:BG}(X:K.In h)(G:h.Ns AR mg)(hfa:mg "law"=some (.ref fa))
  {odL anL:Option BG}{slL:Array (Option BE)}{ocL kVL dcL pmL cdL ctL:BE}{fL:BG}{fBY:BG}{dB:Option BG}{t1 t2 t3:Tok}{nB:Nat}{sB:Array (Option BE)}{tmst:Tok}{CN CL:BG}{cdXc:ClassData}{CXo0:BG}{CXo1:BG}{CXo2:BG}{CXo3:BG}
  (aL:fU K AR "law"=some (some<|.ref fL)) (lL:K.lookup fL=some ⟨ocL,odL,.func<|dU "law" "law" (iA pO) (eO pO) (bD pO) .none kVL dcL pmL anL cdL ctL,slL⟩) (cL:jN K cdL "law"=true) (kL:fG K (.ref fL)=true) (zisinstance:mg "isinstance"=none) (zint:mg "int"=none) (zbool:mg "bool"=none) (zrange:mg "range"=none) (ztuple:mg "tuple"=none) (zenumerate:mg "enumerate"=none) (zlen:mg "len"=none) (zmin:mg "min"=none) (zlist:mg "list"=none) (zsorted:mg "sorted"=none) (zall:mg "all"=none) (zsum:mg "sum"=none) (zany:mg "any"=none) (aBY:fU K AR "BY_ITSELF"=some (some<|.ref fBY)) (lBY:K.lookup fBY=some ⟨.type "tuple",dB,.seq #[.str "not" t1,.str "up" t2,.str "down" t3] nB,sB⟩) (amst:fU K AR "MOST_TABLES"=some (some<|.int 500 tmst)) (aCN:fU K AR "TooGreat"=some (some<|.ref CN)) (xa:gT K (.ref CN) "__class__"=some (some<|.builtin "object.__class__")) (xm:aKk K CN (.type "object")=some true) (xs:PySem.W.subIn K (.ref CN) (.type "BaseException")=some true) (xg:gT K (.ref CN) "__getattribute__"=some (some<|.builtin "BaseException.__getattribute__")) (xn:gT K (.ref CN) "__getattr__"=some none) (xcl:PySem.W.clsIn K CN=some cdXc) (xex:lS K CN [.type "ValueError",.type "Exception",.type "BaseException",.type "object"] "ValueError.__new__"=true) (aLE:fU K AR "LeastError"=some (some<|.ref CL)) (xle:bR K (.ref CN) (.ref CL)=some true) (xnw:xD K (.ref CN) (.ref CN)=some true) (nVE:fU K AR "ValueError"=some none) (xve:bR K (.ref CN) (.type "ValueError")=some true) (aX0:fU K AR "NoChange"=some (some<|.ref CXo0)) (xo0:bR K (.ref CN) (.ref CXo0)=some false) (aX1:fU K AR "NoText"=some (some<|.ref CXo1)) (xo1:bR K (.ref CN) (.ref CXo1)=some false) (aX2:fU K AR "NoWindow"=some (some<|.ref CXo2)) (xo2:bR K (.ref CN) (.ref CXo2)=some false) (aX3:fU K AR "NoWish"=some (some<|.ref CXo3)) (xo3:bR K (.ref CN) (.ref CXo3)=some false) (hWl:FI K mg "is_whole" aHo) (hC:FI K mg "word_count" aHc) (hEa:FI K mg "with_each_word" aCl) (hFi:FI K mg "fillings" aKR) (hNu:FI K mg "number_of" aON) (hI:FI K mg "word_by_itself" aCU) (hA:FI K mg "word_by_another" aBi) (hN:FI K mg "new_word" aAH) (hB:FI K mg "written_box" aBs) (hS:FI K mg "step_on" aDG) (hNo:FI K mg "numbers_of_step" aNr) (hMo:FI K mg "moves_of" aCE) (hNb:FI K mg "numbers_behind" aIh) (hPu:FI K mg "put_longer_rows" aOG) (hFo:FI K mg "found_rows" sFd) (hTf:FI K mg "table_from" aCu) (hBk:FI K mg "book_of" aIc) (hIr:FI K mg "is_row" zG) (hP:FI K mg "price_of" aCA) (hNr:FI K mg "numbers_of_row" aKN) (hIp:FI K mg "is_priced_row" aLc) (hSd:FI K mg "stands_there" aOT) (hSa:FI K mg "has_start" aCt) (hPb:FI K mg "prices_by_numbers" aOA) (hCl:FI K mg "is_closed" aOv) (hHo:FI K mg "holds" aCB) (hMs:FI K mg "misses_at" aLi) (hDo:FI K mg "does_wish" aLb) (hFt:FI K mg "first_that_does" sFt) (hLr:FI K mg "least_row" sLr) (hSh:FI K mg "shows_none" aLh) (hCa:FI K mg "_law_cell_at" aCT) (hMi:FI K mg "_law_mixed" aHu) (hF:FI K mg "_law_fillings" aCM) (hLw:FI K mg "_law_word" aHj) (hAf:FI K mg "_law_after" aOI) (hDr:FI K mg "_law_drawn" aCG) (hLm:FI K mg "_law_moves" aOS) (hCn:FI K mg "_law_counts" aNa) (hGk:FI K mg "_law_great_kit" sGk) (hRf:FI K mg "_law_refused" aOU):
  ∃fd:Aa,(∀ (s:BF) (v:BE),BindsTo s fd ⟨[v],[]⟩ [("_law_script",v)])/\∀base:BI,K.In base->base.Ns AR mg->FnOk P w K mg base CX0 9 fa fd ["_law_script"] (spC K 1 aMX):=by
 have e:=hfa.symm.trans<|fW X G aL;cases e;have byself:∃ad,mg "BY_ITSELF"=some (.ref ad)/\∀H:Hp,SqT K H ad [V.str "not",V.str "up",V.str "down"]:=⟨_,fW X G aBY,λH=>.inr ⟨_,_,_,lBY,rfl,rfl,fB rfl,aAw⟩⟩;have mst:∃t,mg "MOST_TABLES"=some (.int 500 t):=⟨_,fW X G amst⟩;have xk:aNf K mg CN:=⟨⟨xa,xm,xs,xg,xn,by rw[xcl];rfl⟩,xex,⟨CL,fW X G aLE,xle⟩,⟨fW X G aCN,xnw⟩,⟨aCi X G nVE,xve⟩,⟨CXo0,fW X G aX0,xo0⟩,⟨CXo1,fW X G aX1,xo1⟩,⟨CXo2,fW X G aX2,xo2⟩,⟨CXo3,fW X G aX3,xo3⟩⟩;have FL:=aGI (st:=pO) lL cL kL;refine⟨dU "law" "law" (iA pO) (eO pO) (bD pO) .none kVL dcL pmL anL cdL ctL,λs v=>.of_eq rfl,λbase _ _=> ?_⟩;have GWl:=aGu (P:=P) (w:=w) (base:=base) hWl zisinstance zint zbool;have GC:=aFH (P:=P) (w:=w) (base:=base) hC zrange;have GEa:=aIz (P:=P) (w:=w) (base:=base) hEa zrange;have GFi:=aJs hFi zrange GC GEa;have GNu:=aMc hNu GC;have GI:=aEG (P:=P) (w:=w) (base:=base) hI;have GA:=aBL (P:=P) (w:=w) (base:=base) hA;have GN:=aCd hN byself GC GI GA;have GB:=aBW (P:=P) (w:=w) (base:=base) hB;have GS:=aER hS GB GN;have GNo:=aFI hNo ztuple GNu GS GFi;have GMo:=aBx hMo GNo;have GNb:=aEw (P:=P) (w:=w) (base:=base) hNb ztuple;have GPu:=aGg hPu zenumerate GNb;have GFo:=aBR hFo zlen zmin zlist zsorted mst xk GPu;have GTf:=aCb (P:=P) (w:=w) (base:=base) hTf ztuple;have GBk:=aEf hBk zlen zrange ztuple GFi GMo GFo GTf;have GIr:=aGn hIr zall zlen GWl;have GP:=aFM (P:=P) (w:=w) (base:=base) hP zsum;have GNr:=aEV hNr GNb;have GIp:=aEC hIp GIr GP;have GSd:=aAt (P:=P) (w:=w) (base:=base) hSd;have GSa:=aCc (P:=P) (w:=w) (base:=base) hSa zany;have GPb:=aFB hPb zlen zrange ztuple GFi GIp GNr GTf;have GCl:=aAu hCl GNb GSd;have GHo:=aBK hHo GMo GPb GSa GCl;have GMs:=aDU hMs zenumerate GFi;have GDo:=aIt hDo GMs;have GFt:=aIC hFt GDo;have GLr:=aIL hLr GBk GFt;have GSh:=aEA hSh GHo GFt;have GCa:=aEu (P:=P) (w:=w) (base:=base) hCa zlen;have GMi:=aFF (P:=P) (w:=w) (base:=base) hMi;have GF:=aCa (P:=P) (w:=w) (base:=base) hF zrange;have GLw:=aJA (P:=P) (w:=w) (base:=base) hLw;have GAf:=aGx hAf GLw;have GDr:=aJv hDr GMi;have GLm:=aFD hLm GF GAf;have GCn:=aFx hCn zrange zlen ztuple GF GLm;have GGk:=aID hGk zrange zint GCa GMi GDr;have GRf:=aGr hRf zisinstance xk GLr;exact aMv FL zint zrange zlen zisinstance ztuple GCa GMi GF GGk GCn GLr GRf GSh
end K55
open PySem PySem.W PyProof.Rows
namespace PySem.W.Fast
theorem tw10126399364238027287:True:=trivial
theorem tw10184952325346066538:True:=trivial
theorem tw10196602447860988987:True:=trivial
theorem tw1036633922980768554:True:=trivial
theorem tw10653528396454468726:True:=trivial
theorem tw10960908367276481050:True:=trivial
theorem tw10972153885796159869:True:=trivial
theorem tw11581560378494501554:True:=trivial
theorem tw11590888138387662305:True:=trivial
theorem tw11703736515141241516:True:=trivial
theorem tw12033125964344945848:True:=trivial
theorem tw12086131985780772747:True:=trivial
theorem tw1263134531649913600:True:=trivial
theorem tw1265029474293445152:True:=trivial
theorem tw12652785596088314203:True:=trivial
theorem tw12678240528807186550:True:=trivial
theorem tw12765690065786424840:True:=trivial
theorem tw12789302751646640401:True:=trivial
theorem tw12820940981158176516:True:=trivial
theorem tw12981186190084088768:True:=trivial
theorem tw13309762462627201801:True:=trivial
theorem tw13313356406934069161:True:=trivial
theorem tw13379415964786776301:True:=trivial
theorem tw13540593493684389730:True:=trivial
theorem tw1385973639592802089:True:=trivial
theorem tw13994245972547297430:True:=trivial
theorem tw14196717460626540805:True:=trivial
theorem tw14654775215813890837:True:=trivial
theorem tw1524864920570422356:True:=trivial
theorem tw15633901760645833844:True:=trivial
theorem tw15762420873127411855:True:=trivial
theorem tw16308817185041760278:True:=trivial
theorem tw16368054964492408641:True:=trivial
theorem tw16553261355062822645:True:=trivial
theorem tw16602580967202029537:True:=trivial
theorem tw16631291234156735968:True:=trivial
theorem tw17025188038434123376:True:=trivial
theorem tw17211456306921074377:True:=trivial
theorem tw17823945718549060979:True:=trivial
theorem tw18166767352552369910:True:=trivial
theorem tw1840127055871995771:True:=trivial
theorem tw2107813850898920342:True:=trivial
theorem tw2194338441451592764:True:=trivial
theorem tw2617362970775596179:True:=trivial
theorem tw3210887622326757949:True:=trivial
theorem tw3308678773910013427:True:=trivial
theorem tw3521346334082527275:True:=trivial
theorem tw375689683962018037:True:=trivial
theorem tw451935415435017635:True:=trivial
theorem tw4533305049867382803:True:=trivial
theorem tw4599594124088856712:True:=trivial
theorem tw5080387402582467465:True:=trivial
theorem tw5373463296311448514:True:=trivial
theorem tw5760854841721787390:True:=trivial
theorem tw5791607626474844834:True:=trivial
theorem tw6192252175493456396:True:=trivial
theorem tw6243782671071215794:True:=trivial
theorem tw6654158185959365323:True:=trivial
theorem tw7094491154242042245:True:=trivial
theorem tw7290846280551256426:True:=trivial
theorem tw8074173343096445662:True:=trivial
theorem tw8266512597171892727:True:=trivial
theorem tw8334712258522033057:True:=trivial
theorem tw8508195245989195296:True:=trivial
theorem tw866146847729772560:True:=trivial
theorem tw9231648334643642486:True:=trivial
theorem tw956015252196784441:True:=trivial
theorem tw9669755647691603360:True:=trivial
theorem tw9983111544572284682:True:=trivial
end PySem.W.Fast
set_option maxRecDepth 100000 in
set_option maxHeartbeats 0 in
theorem PySem.Challenge.cw_leastrow_k55_least_too_great_holds : PySem.Challenge.rw_leastrow_k55_least_too_great.Holds := by
 w_on;o_law;k_head;(case hw=>w_witness2)
 k_fill
 refine DL.walkD (l:=PySem.Challenge.rw_leastrow_k55_least_too_great) (k:=9) (x:="_law_script") rfl rfl ⟨rfl,by decide,by decide,rfl⟩ (λw h Y=>PySem.W.kIn_of Y) ?F
 case F=>
  intro w mg fa h KX G hmg;refine' K55.all_mk KX G hmg ?aL ?lL ?cL ?kL ?zisinstance ?zint ?zbool ?zrange ?ztuple ?zenumerate ?zlen ?zmin ?zlist ?zsorted ?zall ?zsum ?zany ?aBY ?lBY ?amst ?aCN ?xa ?xm ?xs ?xg ?xn ?xcl ?xex ?aLE ?xle ?xnw ?nVE ?xve ?aX0 ?xo0 ?aX1 ?xo1 ?aX2 ?xo2 ?aX3 ?xo3 ..
  (case aL|lL|cL|kL|aBY|lBY|amst|aCN|xa|xm|xs|xg|xn|xcl|aLE|nVE|aX0|aX1|aX2|aX3=>k_is);(case zisinstance|zint|zbool|zrange|ztuple|zenumerate|zlen|zmin|zlist|zsorted|zall|zsum|zany=>refine' aCi KX G ?a;(case a=>k_is));(case xex=>k_exc);(case xle=>kit_is);(case xnw=>kts_exm);(case xve=>kit_is);(case xo0=>kit_is);(case xo1=>kit_is);(case xo2=>kit_is);(case xo3=>kit_is)
  any_goals (refine' DL.FI.mk KX G ?a ?l ?c ?k;(case a|l|c|k=>k_is))
