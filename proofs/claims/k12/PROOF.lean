import PyProof.Rows.All
import Wide.All
import OpenK.AllK
import Wide.FinOn
import Lean
import PyProof.EqAt
import PyProof.EqKinds
import PyProof.TupleCall
import PySem.Challenge.RW_leastrow_k12_texts_of_stocks
set_option Elab.async false
set_option linter.all false
set_option maxRecDepth 100000
open PySem renaming wpAny_bind→AA,starEach→AB,wpAny_pure→AC,Program→AD,wpAny→AE,model→AF,World→AG,sizeLine→AH,mainGlobals→AI,FuncData→AJ,compareOp→AK,sizeLine_eq→AM,cLine→AN,wpAny_holding→AO,behindInMarks→AQ,wpAny_field→AR,wpAny_loadPart_at→AS,bootBuiltins→AT,wpAny_truthy_bool→AU,assignEach→AV,wpAny_seqItems→AW,backTo→AX,wpAny_mono→AY,wpAny_Call_Name_kw→AZ,sliceBounds→Aa,codeAny_call_builtin→Ab,wpAny_setField_rec→Ac,swapsWith→Ad,foldedSetIterable→Ae,binaryOp→Af,codeAny_mono→Ag,wpAny_setState_of→Ah,sysModules→Ai,IsPair→Aj,wpAny_callSpecial?_slot→Al,carriedByValue→Am,attributeBase→Ao,wpAny_pyIter_list→Ap,typeIs_str→Aq,call_meets→Ar,wpAny_standAt→As,wpAny_passesOwn→Au,codeAny_builtin→Av
open PyProof.Rows renaming Keyed→AL,envOfC→Ak
open Inhabited renaming default→An
open PySem.W renaming Frag→aA,kitOne→aV,keepIn→bS,nsIn→cQ,mg_of→cR,findIn→cS,fnOf→cU,kia_one→dB,codeIn→fE,exmOne→gC,specialIn→kI,instObj→mK,excIn→oM,clsIn→oN,callWith_K→oZ,methodObj→rE,hasDictIn→rF,lookIn→vF,typeIn→vG,cellsFrom_some→zS
open PySem.Heap renaming get?_push_of_some→aC,lt_size→aK,get?_push_size→aY,get?_update_other→cV,get?_update_self→cZ,size_push→gG,get?_none_of_le→jB
open List renaming length_map→aD,mem_cons→aG,mem_cons_of_mem→aH,size_toArray→aI,mem_append_right→aJ,mem_cons_self→aM,map_append→aT,length_append→aU,mem_append→aW,mem_map→bA,map_cons→bB,not_mem_nil→bD,getElem?_eq_some_iff→bF,mem_append_left→bH,all_eq_true→bJ,replicate→bL,length_cons→bM,getElem?_eq_getElem→bN,getElem?_map→bQ,mem_map_of_mem→bT,mem_singleton→bX,mem_range→cE,range→cI,map_map→cJ,mem_of_getElem?→cK,filterMap_cons→cT,nodup_append→dA,append_nil→dC,lookup_cons→dD,getElem_mem→dE,drop_zero→dM,pairwise_append→dQ,getD→dS,filter_eq_self→dU,nodup_cons→dY,getElem?_eq_none→eA,length_take→eC,replicate_succ→eO,take_of_length_le→eR,any_eq_true→eY,nodup_nil→fA,getD_eq_getElem?_getD→fB,length_pos_iff→fG,flatten_cons→fZ,pairwise_map→gA,mem_of_mem_drop→gE,nodup_iff_pairwise_ne→gF,map_nil→gJ,getElem_of_mem→gR,find?_cons→gY,pairwise_cons→gZ,cons→iF,take_add_one→iK,length_range→iL,take_append_drop→iS,length_drop→iT,getElem?_set_ne→iZ,mem_of_mem_take→jA,map_congr_left→jP,mem_filterMap→kF,take_zero→kG,find?_eq_none→kH,drop_eq_getElem_cons→kP,mem_of_find?_eq_some→kQ,length→lH,append_assoc→lI,take_length→mI,eraseIdx_cons_succ→mJ,getElem?_set_self→mR,mem_filter→nF,take_left'→nG,drop_left'→nH,take_succ_cons→pB,drop_succ_cons→pD,any_cons→qZ,map_take→rA,map_drop→rB,any_eq_false→sD,mem_flatMap→tG,nodup_range→tH,cons_append→tI,of_mem_zip→vJ,nil_append→vK,length_nil→vL,forIn_cons→vM,find?_some→vN,getElem?_append_right→xD,perm_ext_iff_of_nodup→xF,getElem?_append_left→zP,getElem?_eq_none_iff→zQ
open Nat renaming le_refl→aO,le_trans→aQ,lt_of_lt_of_le→aX,ne_of_lt→bG,zero_le→bU,le_of_ble_eq_true→cG,lt_or_eq_of_le→cW,mod_lt→dI,le_of_lt→dW,ne_of_gt→eX,lt_irrefl→eZ,mul_le_mul→iR,pow_le_pow_right→jD,le_of_eq→jU,lt_or_ge→jV,le_succ→lO,succ_le_succ→mO,div_div_eq_div_mul→nI,not_lt→sA,succ_pos→sM,le_add_right→vB,lt_of_not_le→vC,succ_ne_zero→vD
open Bool renaming and_eq_true→aR,false_eq_true→aZ,false_ne_true→bC,eq_iff_iff→dZ,not_eq_true'→gB,not_true→iX,or_eq_true→jI,beq_eq_decide_eq→oA,false_and→oJ,or_eq_false_iff→oK,true_and→rD,and_false→xG,not_false→xH,and_self→zU
open PySem.SetTable renaming runEnd→bV,bits→cB,turns→eS,layClean→fC,probe→fD,insertAt→fS,below→fX,leap→kJ,grown→mS,tooFull→rG
open Option renaming some→cC,map_eq_some_iff→iI,isSome_iff_exists→kR,bind_some→sE
open Int renaming toNat_natCast→cD,emod_nonneg→cM,emod_lt_of_pos→cO,toNat_of_nonneg→eQ,le_refl→iH,ne_of_gt→sN
open Array renaming length_toList→cY,toList_inj→fH,getElem?_eq_some_iff→gD,mem_toList_iff→iY,getElem?_eq_none→mP,all_toList→sO,replicate→vE,getD_eq_getD_getElem?→vO,getElem?_eq_none_iff→vT,getElem?_replicate→zR
open PySem.F renaming plainAttrs_str→fP,slot_str_split→iG,args_tuple_add_2→kN,args_str_split_2→kO,entry_tuple_add→lJ,plainAttrs_list→lM,entry_str_split→lN,slot_tuple_add→mE,slot_dict_get→mQ,slot_str_partition→vH,excBase_ValueError→vI,slot_str_replace→vU,args_dict_get_3→xI,entry_dict_get→zT,slot_str_join→zV,type_str_join→zW,slot_list_pop→zX
open List renaming mem_singleton_self→aBc,pairwise_singleton→aBd,length_eq_zero_iff→aBe,drop_of_length_le→aBA,pairwise_lt_range→aBB,length_filter_le→aBC,contains_iff_mem→aBD,getElem?_range→aEJ,append_of_mem→aGh,getElem_range→aGi,foldl→aHo,zipIdx_cons→aJs,any_toArray→aJt,ext_getElem→aJu,append_inj'→aJv,length_set→aJF,foldl_cons→aJG,zipIdx_nil→aJH,range_succ→aJI,all_append→aJJ,forIn_nil→aMg,map→aMy,all_map→aOc
open Option renaming bind_eq_bind→aBE,map→aEK,getD_none→aGk,pure_def→aHq,none→aMA
open PySem.W renaming isNs_of_in→aBF,mg_none_of→aBG,kitx_list→aEH,kitx_dict→aEI,plainGet→aEO,readsIn→aGl,findCls→aGm,mroIn→aJw,isFn→aJM
open Nat renaming pow_zero→aEC,pow_succ→aED,sub_zero→aEE,div_one→aGj,lt_of_le_of_lt→aHp,le_of_not_lt→aJK,lt_succ_self→aJL,min_eq_left→aMh,le_add_left→aMi,add_comm→aOO
open Int renaming zero_add→aEF,mul_nonneg→aMz
open Array renaming toList_append→aEG,find?_toList→aEL,forIn_toList→aEM,toList→aMC
open PySem.Heap renaming get?_update_ne→aEN
open PySem.SetTable renaming slot→aHr,laid→aHs
open Bool renaming false_or→aMB,or_true→aOd
open PySem renaming Value→BA,Shared→BB,Addr→BC,Around→BD,Heap→BE,Obj→BF,Stmt→BG,SetTable→BI
open PyProof.Rows renaming SortSt→BH
namespace L2
open PySem PySem.Spec PyProof.Rows
noncomputable abbrev Key:=Sum Int Str
noncomputable def tW:Key->BA->Bool
 |.inl k,v=>Value.isInt k v
 |.inr x,v=>Value.isStrOf x v
noncomputable def keyH(w:AG):Key->Int
 |.inl k=>hashInt k
 |.inr x=>hashStr w x
theorem eM:∀ {k:Key}{v:BA},tW k v=true->(∃i t,k=Sum.inl i/\v=Value.int i t)\/(∃x t,k=Sum.inr x/\v=Value.str x t)
 |.inl i,v,h=>by obtain⟨t,e⟩:=Value.isInt_shape (k:=i) (v:=v) h;exact .inl ⟨i,t,rfl,e⟩
 |.inr x,v,h=>by obtain⟨t,e⟩:=Value.isStrOf_shape (x:=x) (v:=v) h;exact .inr ⟨x,t,rfl,e⟩
theorem aEz(i:Int)(t:Tok):tW (.inl i) (.int i t)=true:=by simp[tW,Value.isInt]
theorem aDI(x:Str)(t:Tok):tW (.inr x) (.str x t)=true:=by simp[tW,Value.isStrOf]
theorem aLY(a b:Int):decide ((Sum.inl a:Key)=Sum.inl b)=(a==b):=by
 by_cases e:a=b
 ·subst e;simp
 ·have h:¬ (Sum.inl a:Key)=Sum.inl b:=λq=>e (Sum.inl.inj q)
  rw[decide_eq_false h];exact(beq_eq_false_iff_ne.mpr e).symm
theorem aKO(a b:Str):decide ((Sum.inr a:Key)=Sum.inr b)=decide (a=b):=by
 by_cases e:a=b
 ·subst e;simp
 ·have h:¬ (Sum.inr a:Key)=Sum.inr b:=λq=>e (Sum.inr.inj q)
  rw[decide_eq_false h,decide_eq_false e]
theorem aKp(a:Int)(b:Str):decide ((Sum.inl a:Key)=Sum.inr b)=false:=decide_eq_false λq=>nomatch q
theorem aKC(a:Str)(b:Int):decide ((Sum.inr a:Key)=Sum.inl b)=false:=decide_eq_false λq=>nomatch q
noncomputable def dJ(prog:AD)(w:AG):PySem.KeyKind prog w Key where
 is:=tW
 hash:=keyH w
 inj:=λv a b ha hb=>by
  rcases eM ha with⟨i,t,rfl,rfl⟩|⟨x,t,rfl,rfl⟩
  ·rcases eM hb with⟨j,u,rfl,e⟩|⟨y,u,rfl,e⟩
   ·injection e with e1 _;rw[e1]
   ·exact nomatch e
  ·rcases eM hb with⟨j,u,rfl,e⟩|⟨y,u,rfl,e⟩
   ·exact nomatch e
   ·injection e with e1 _;rw[e1]
 byValue:=λk v h=>by rcases eM h with⟨i,t,rfl,rfl⟩|⟨x,t,rfl,rfl⟩<;>rfl
 pyHash:=λhv h=>by
  rcases eM hv with⟨i,t,rfl,rfl⟩|⟨x,t,rfl,rfl⟩
  ·exact wpAny_pyHash_int h
  ·exact wpAny_pyHash_str h
 eqBool:=λhu hv h=>by
  rcases eM hu with⟨i,t,rfl,rfl⟩|⟨x,t,rfl,rfl⟩
  ·rcases eM hv with⟨j,u,rfl,rfl⟩|⟨y,u,rfl,rfl⟩
   ·rw[aLY] at h;exact wpAny_eqBool_int h
   ·rw[aKp] at h;exact SeqAt.EqAt.int_str i t y u _ _ _ _ h
  ·rcases eM hv with⟨j,u,rfl,rfl⟩|⟨y,u,rfl,rfl⟩
   ·rw[aKC] at h;exact SeqAt.EqAt.str_int x t j u _ _ _ _ h
   ·rw[aKO] at h;exact wpAny_eqBool_str h
 «strs»:=λk x t v h=>by
  rcases eM h with⟨i,u,rfl,e⟩|⟨y,u,rfl,e⟩
  ·exact nomatch e
  ·injection e with e1 _
   subst e1;cases v<;>rfl
theorem aAe(prog:AD)(w:AG)(i:Int)(t:Tok):(dJ prog w).is (.inl i) (.int i t)=true:=aEz i t
theorem aAd(prog:AD)(w:AG)(x:Str)(t:Tok):(dJ prog w).is (.inr x) (.str x t)=true:=aDI x t
inductive V where
 |non|bl (b:Bool)|int (i:Int)|str (x:Str)|byt (b:Array UInt8)|flt (b:UInt64)|ref (a:BC)|ty (n:String)
 deriving DecidableEq
noncomputable def RelV:V->BA->Prop
 |.non,u=>u=Value.none
 |.bl b,u=>u=Value.bool b
 |.int i,u=>∃t,u=Value.int i t
 |.str x,u=>∃t,u=Value.str x t
 |.byt b,u=>∃t,u=Value.bytes b t
 |.flt b,u=>∃t,u=Value.float b t
 |.ref a,u=>u=Value.ref a
 |.ty n,u=>u=Value.type n
abbrev Vals:List V->List BA->Prop:=Paired RelV
theorem Vals.length{xs:List V}{us:List BA}(r:Vals xs us):xs.length=us.length:=Paired.length r
theorem Vals.get:∀ {xs:List V}{us:List BA}{i:Nat}{x:V},Vals xs us->xs[i]? =some x->∃u,us[i]? =some u/\RelV x u
 |_,_,_,_,.nil,e=>by simp at e
 |_,_,0,_,.cons r _,e=>by simp at e;subst e;exact⟨_,rfl,r⟩
 |_,_,i+1,x,.cons _ t,e=>by obtain⟨u,h1,h2⟩:=Vals.get (i:=i) (x:=x) t (by simpa using e);exact⟨u,by simpa using h1,h2⟩
theorem Vals.set{x:V}{u:BA}(r:RelV x u):∀ {xs:List V}{us:List BA} (i:Nat),Vals xs us->Vals (xs.set i x) (us.set i u)
 |_,_,_,.nil=>.nil
 |_,_,0,.cons _ t=>.cons r t
 |_,_,i+1,.cons q t=>.cons q<|Vals.set r i t
theorem Vals.append:∀ {xs ys:List V}{us ws:List BA},Vals xs us->Vals ys ws->Vals (xs++ys) (us++ws)
 |_,_,_,_,.nil,s=>s
 |_,_,_,_,.cons r t,s=>.cons r<|Vals.append t s
theorem Vals.take:∀ {xs:List V}{us:List BA} (n:Nat),Vals xs us->Vals (xs.take n) (us.take n)
 |_,_,0,_=>.nil
 |_,_,_+1,.nil=>.nil
 |_,_,n+1,.cons r t=>.cons r<|Vals.take n t
theorem Vals.drop:∀ {xs:List V}{us:List BA} (n:Nat),Vals xs us->Vals (xs.drop n) (us.drop n)
 |_,_,0,r=>r
 |_,_,_+1,.nil=>.nil
 |_,_,n+1,.cons _ t=>Vals.drop n t
noncomputable def RelO:Option V->Option BA->Prop
 |some v,some u=>RelV v u
 |none,none=>True
 |_,_=>False
def KV{κ:Type}:List (κ×V)->List (κ×BA)->Prop:=Paired λ(p:κ×V) (q:κ×BA)=>p.1=q.1/\RelV p.2 q.2
noncomputable def kV:Key->V
 |.inl i=>.int i
 |.inr x=>.str x
inductive HO where
 /-- a list -/
 |lst (xs:List V)
 /-- a tuple (never changes) -/
 |tup (xs:List V)
 /-- a dict whose keys are ints and texts;one whose keys are tuples of ints and texts (the empty one is both) -/
 |dK (kvs:List (Key×V))|dT (kvs:List (List Key×V))
 /-- a set of ints:its members,its size -/
 |set (S:Int->Bool) (n:Nat)
 /-- an instance of the class at C,its dict at dx,its attributes -/
 |ins (C dx:BC) (fs:List (Str×V))
 /-- the dict of the instance at x -/
 |own (x:BC)
 /-- the dict of an exception -/
 |xd (fs:List (Str×V))
 /-- a bound method,f of x -/
 |met (f x:BC)
 /-- a range object lo,lo+1, .. below hi -/
 |rng (lo hi:Int)
 /-- a thing that is known to the object (the script;a dict while a loop walks it):read,never written while it is so -/
 |frz (o:BF) (u:HO)
 /-- a code object's table -/
 |tbl (ps:Array BA)
 /-- any other thing,by what is true of its one object (a def of one's own:SetO a S n:=HO.ext λh=> ..) -/
 |ext (φ:BE->Prop)
noncomputable abbrev Hp:=BC->Option HO
noncomputable def upd(H:Hp)(a:BC)(o:HO):Hp:=λb=>if b=a then some o else H b
theorem bR{H:Hp}{a:BC}{o:HO}:upd H a o a=some o:=by unfold upd;rw[if_pos rfl]
theorem bK{H:Hp}{a b:BC}{o:HO}(h:b≠a):upd H a o b=H b:=by unfold upd;rw[if_neg h]
theorem aHZ{H:Hp}{a:BC}{o u:HO}:upd (upd H a o) a u=upd H a u:=by funext b;unfold upd;split<;>rfl
theorem cF{H:Hp}{a b:BC}{o:HO}(h:H a=some o)(h':H b=none):a≠b:=by intro e;subst e;rw[h] at h';cases h'
def IsTupD(h:BE)(a:BC)(items:Array BA):Prop:=∃o,h.get? a=some o/\o.cls=.type "tuple"/\(∃n,o.data=.seq items n)/\o.dict=none
theorem IsTupD.tup{h:BE}{a:BC}{items:Array BA}(x:IsTupD h a items):IsTup h a items:=let ⟨o,e,c,d,_⟩:=x;⟨o,e,c,d⟩
theorem IsTupD.new(h:BE)(items:Array BA):IsTupD (h.push {cls:=.type "tuple",data:=.seq items}) h.objs.size items:=⟨_,aY _ rfl,rfl,⟨_,rfl⟩,rfl⟩
variable (P:AD)(w:AG)
noncomputable def ObjOk(H:Hp)(h:BE)(a:BC):HO->Prop
 |.lst xs=>xs.length<=AH/\∃ (its:List BA) (n:Nat),Vals xs its/\h.get? a=some {cls:=.type "list",data:=.seq its.toArray n}
 |.tup xs=>xs.length<=AH/\∃its:List BA,Vals xs its/\IsTupD h a its.toArray
 |.dK kvs=>kvs.length<=AH/\(a==Ai)=false/\∃vs,KV kvs vs/\h.DictOf (dJ P w) a vs
 |.dT kvs=>kvs.length<=AH/\(a==Ai)=false/\∃xs:List (List Key×BC×BA),
   Paired (λ(p:List Key×V) (q:List Key×BC×BA)=>p.1=q.1/\H q.2.1=some (.tup<|p.1.map kV)/\RelV p.2 q.2.2) kvs xs/\
   ∃o es ep,h.get? a=some o/\o.ExactDict/\o.data=.dict es ep/\es.toList=xs.map (entryOfKey (tupleKind<|dJ P w))/\(xs.map (·.1)).Nodup
 |.set S n=>h.SetOf (intKind P w) a S n
 |.ins C dx fs=>H dx=some (.own a)/\fs.length<=1000/\dx≠a/\h.get? a=some (mK C dx)/\
   ∃mA,h.Ns1 dx mA/\(∀f,RelO (fs.lookup f)<|mA f)/\PySem.Within mA (fs.map (·.1))
 |.own _=>∃o,h.get? a=some o
 |.xd fs=>∃mA,h.Ns1 a mA/\∀f,RelO (fs.lookup f)<|mA f
 |.rng lo hi=>∃t u v,h.get? a=some {cls:=.type "range",data:=.fields #[.int lo t,.int hi u,.int 1 v]}
 |.frz o u=>h.get? a=some o/\ObjOk H h a u
 |.tbl ps=>h.get? a=some {cls:=.none,data:=.fields ps}
 |.met f x=>h.get? a=some (rE (.ref f)<|.ref x)
 |.ext φ=>φ h/\(∃o,h.get? a=some o)/\∀h1 h2:BE,φ h1->(∀o,h1.get? a=some o->h2.get? a=some o)->φ h2
def HOk(H:Hp)(h:BE):Prop:=∀a o,H a=some o->ObjOk P w H h a o
variable {P:AD}{w:AG}{H H':Hp}{h h':BE}{a:BC}{o:HO}
theorem ObjOk.lt(x:ObjOk P w H h a o):a<h.objs.size:=by
 cases o with
 |lst xs=>obtain⟨_,_,_,_,e⟩:=x;exact aK e
 |tup xs=>obtain⟨_,_,_,p⟩:=x;exact p.tup.lt
 |dK kvs=>obtain⟨_,_,_,_,o,_,_,e,_⟩:=x;exact aK e
 |dT kvs=>obtain⟨_,_,_,_,o,_,_,e,_⟩:=x;exact aK e
 |set S n=>obtain⟨o,_,_,_,e,_⟩:=x;exact aK e
 |ins C dx fs=>obtain⟨_,_,_,e,_⟩:=x;exact aK e
 |own y=>obtain⟨_,e⟩:=x;exact aK e
 |xd fs=>obtain⟨_,⟨_,_,_,e,_⟩,_⟩:=x;exact aK e
 |rng lo hi=>obtain⟨_,_,_,e⟩:=x;exact aK e
 |frz ob u=>obtain⟨e,_⟩:=x;exact aK e
 |tbl ps=>exact aK (show h.get? a=some _ from x)
 |met f y=>exact aK (show h.get? a=some _ from x)
 |ext φ=>obtain⟨_,⟨_,e⟩,_⟩:=x;exact aK e
theorem Paired.mapP{α β:Type}{F G:α->β->Prop}:∀ {l₁:List α}{l₂:List β},Paired F l₁ l₂->(∀a b,F a b->G a b)->Paired G l₁ l₂
 |_,_,.nil,_=>.nil
 |_,_,.cons r t,f=>.cons (f _ _ r)<|Paired.mapP t f
theorem ObjOk.stay(x:ObjOk P w H h a o)(k:∀b u,(b=a\/H b=some (.own a))->h.get? b=some u->h'.get? b=some u)
  (ho:∀b,H b=some (.own a)->H' b=some (.own a)) (ht:∀b xs,H b=some (.tup xs)->H' b=some (.tup xs)):ObjOk P w H' h' a o:=by
 induction o with
 |lst xs=>obtain⟨z,its,n,r,e⟩:=x;exact⟨z,its,n,r,k _ _ (.inl rfl) e⟩
 |tup xs=>obtain⟨z,its,r,ob,e,c⟩:=x;exact⟨z,its,r,ob,k _ _ (.inl rfl) e,c⟩
 |dK kvs=>obtain⟨z,y,vs,r,ob,es,ep,e,c⟩:=x;exact⟨z,y,vs,r,ob,es,ep,k _ _ (.inl rfl) e,c⟩
 |dT kvs=>obtain⟨z,y,xs,r,ob,es,ep,e,c⟩:=x;exact⟨z,y,xs,Paired.mapP r λp q z=>⟨z.1,ht _ _ z.2.1,z.2.2⟩,ob,es,ep,k _ _ (.inl rfl) e,c⟩
 |set S n=>obtain⟨ob,es,ep,t,e,c⟩:=x;exact⟨ob,es,ep,t,k _ _ (.inl rfl) e,c⟩
 |ins C dx fs=>obtain⟨d,z,ne,e,mA,⟨od,es,ep,e2,c⟩,r⟩:=x;exact⟨ho _ d,z,ne,k _ _ (.inl rfl) e,mA,⟨od,es,ep,k _ _ (.inr d) e2,c⟩,r⟩
 |own y=>obtain⟨ob,e⟩:=x;exact⟨ob,k _ _ (.inl rfl) e⟩
 |xd fs=>obtain⟨mA,⟨od,es,ep,e,c⟩,r⟩:=x;exact⟨mA,⟨od,es,ep,k _ _ (.inl rfl) e,c⟩,r⟩
 |rng lo hi=>obtain⟨t,u,v,e⟩:=x;exact⟨t,u,v,k _ _ (.inl rfl) e⟩
 |frz ob u ih=>obtain⟨e,q⟩:=x;exact⟨k _ _ (.inl rfl) e,ih q⟩
 |tbl ps=>have e:h.get? a=some {cls:=.none,data:=.fields ps}:=x;show h'.get? a=some {cls:=.none,data:=.fields ps};exact k a _ (.inl rfl) e
 |met f y=>have e:h.get? a=some (rE (.ref f)<|.ref y):=x;show h'.get? a=some (rE (.ref f)<|.ref y);exact k a _ (.inl rfl) e
 |ext φ=>obtain⟨p,⟨o,e⟩,st⟩:=x;exact⟨st _ _ p λo q=>k _ _ (.inl rfl) q,⟨o,k _ _ (.inl rfl) e⟩,st⟩
theorem HOk.lt(x:HOk P w H h)(e:H a=some o):a<h.objs.size:=(x a o e).lt
theorem HOk.fresh(x:HOk P w H h)(e:h.objs.size<=a):H a=none:=by
 cases q:H a with
 |none=>rfl
 |some u=>exact absurd (aX (x.lt q) e)<|eZ _
theorem HOk.kept(x:HOk P w H h)(k:∀b u,h.get? b=some u->h'.get? b=some u):HOk P w H h':=λa o e=>(x a o e).stay (λb u _ q=>k b u q) (λ_ q=>q) λ_ _ q=>q
theorem HOk.laid(x:HOk P w H h)(k:∀b u,h.get? b=some u->h'.get? b=some u)(hp:h.objs.size<=a)(new:ObjOk P w (upd H a o) h' a o):HOk P w (upd H a o) h':=λb u e=>by
 have hn:=x.fresh hp
 by_cases hb:b=a
 ·subst hb;rw[bR] at e;cases e;exact new
 ·rw[bK hb] at e;exact(x b u e).stay (λc v _ q=>k c v q) (λc q=>by rw[bK<|cF q hn];exact q) λc xs q=>by rw[bK<|cF q hn];exact q
def Rd(H:Hp)(a:BC)(u:HO):Prop:=H a=some u\/∃o,H a=some (.frz o u)
theorem Rd.of{u:HO}(h:H a=some u):Rd H a u:=.inl h
theorem Rd.ok{u:HO}(r:Rd H a u)(x:HOk P w H h):ObjOk P w H h a u:=by
 rcases r with r|⟨o,r⟩
 ·exact x a u r
 ·obtain⟨_,q⟩:=x a _ r;exact q
noncomputable def Mut:Option HO->Prop
 |some (.lst _)=>True
 |some (.dK _)=>True
 |some (.dT _)=>True
 |some (.set _ _)=>True
 |some (.ins _ _ _)=>True
 |some (.ext _)=>True
 |_=>False
variable {x e:BC}{o':HO}
theorem HOk.write(ok:HOk P w H h)(mu:Mut (H x))(he:e=x\/H e=some (.own x))(k:∀b u,b≠e->h.get? b=some u->h'.get? b=some u)(heo:∃u,h'.get? e=some u)
  (new:ObjOk P w (upd H x o') h' x o'):HOk P w (upd H x o') h':=λb u q=>by
 have nown:∀c y,H c=some (.own y)->c≠x:=λc y r z=>by subst z;rw[r] at mu;exact mu
 have ntup:∀c xs,H c=some (.tup xs)->c≠x:=λc xs r z=>by subst z;rw[r] at mu;exact mu
 by_cases hb:b=x
 ·subst hb;rw[bR] at q;cases q;exact new
 ·rw[bK hb] at q
  by_cases hbe:b=e
  ·have q':H b=some (.own x):=by
    rcases he with z|z
    ·exact absurd (hbe.trans z) hb
    ·rw[hbe];exact z
   rw[q] at q';cases q';obtain⟨v,hv⟩:=heo;exact⟨v,by rw[hbe];exact hv⟩
  ·refine(ok b u q).stay (λc v hc r=>k c v ?_ r) (λc r=>by rw[bK<|nown c b r];exact r) λc xs r=>by rw[bK<|ntup c xs r];exact r
   rcases hc with rfl|hc
   ·exact hbe
   ·rintro rfl
    rcases he with z|z
    ·exact nown c b hc z
    ·rw[hc] at z;cases z;exact hb rfl
structure Un(fs ex:List BC)(H H':Hp)(h h':BE):Prop where
 keep:∀b o,h.get? b=some o->H b=none->b∉fs->b∉ex->h'.get? b=some o
 slot:∀b o,h.get? b=some o->H b=none->b∈fs->b∉ex->∃sl,h'.get? b=some {o with slots:=sl}
 free:∀b o,h.get? b=some o->H b=none->b∉ex->H' b=none
 there:∀b o,h.get? b=some o->b∉ex->∃o',h'.get? b=some o'
 tups:∀b xs,H b=some (.tup xs)->H' b=some (.tup xs)
 frzs:∀b o u,H b=some (.frz o u)->H' b=some (.frz o u)
 tbls:∀b ps,H b=some (.tbl ps)->∃more,H' b=some (.tbl<|ps++more)
section
variable {fs fs' ex ex':List BC}{H H1 H2:Hp}{h h1 h2 h':BE}{a x e:BC}{o:HO}
theorem Un.any(u:Un fs ex H H1 h h1){b:BC}{ob:BF}(q:h.get? b=some ob)(n:H b=none)(hx:b∉ex):∃sl,h1.get? b=some {ob with slots:=sl}:=by
 by_cases hb:b∈fs
 ·exact u.slot b ob q n hb hx
 ·exact⟨ob.slots,u.keep b ob q n hb hx⟩
theorem Un.kept(k:∀b u,h.get? b=some u->h'.get? b=some u):Un fs ex H H h h':=
 ⟨λb ob q _ _ _=>k b ob q,λb ob q _ _ _=>⟨ob.slots,k b ob q⟩,λ_ _ _ n _=>n,λb ob q _=>⟨ob,k b ob q⟩,λ_ _ q=>q,λ_ _ _ q=>q,λ_ ps q=>⟨#[],by rw[q];simp⟩⟩
theorem Un.refl:Un fs ex H H h h:=Un.kept λ_ _ q=>q
theorem Un.laid(k:∀b u,h.get? b=some u->h'.get? b=some u)(hp:h.objs.size<=a)(hn:H a=none):Un fs ex H (upd H a o) h h' where
 keep:=λb u q _ _ _=>k b u q
 slot:=λb u q _ _ _=>⟨u.slots,k b u q⟩
 free:=λb u q n _=>by rw[bK (bG<|aX (aK q) hp)];exact n
 there:=λb u q _=>⟨u,k b u q⟩
 tups:=λb xs q=>by rw[bK<|cF q hn];exact q
 frzs:=λb u xs q=>by rw[bK<|cF q hn];exact q
 tbls:=λb ps q=>⟨#[],by rw[bK<|cF q hn,q];simp⟩
theorem Un.write(mu:Mut (H x))(he:e=x\/H e=some (.own x))(k:∀b u,b≠e->h.get? b=some u->h'.get? b=some u)(heo:∃u,h'.get? e=some u):Un fs ex H (upd H x o) h h':=by
 have hx:∀b,H b=none->b≠x:=λb n z=>by subst z;rw[n] at mu;exact mu
 have hb:∀b,H b=none->b≠e:=λb n z=>by
  subst z
  rcases he with r|r
  ·exact hx b n r
  ·rw[n] at r;cases r
 have hm:∀b u,H b=some u->¬ Mut (some u)->b≠x:=λb u q nm z=>by subst z;rw[q] at mu;exact nm mu
 refine ⟨fun b u q n _ _=>k b u (hb b n) q,fun b u q n _ _=>⟨u.slots,k b u (hb b n) q⟩,fun b u q n _=>by rw [bK (hx b n)]; exact n,fun b u q _=> ?_,
  λb xs q=>by rw[bK (hm b _ q λz=>z)];exact q,λb u xs q=>by rw[bK (hm b _ q λz=>z)];exact q,λb ps q=>⟨#[],by rw[bK (hm b _ q λz=>z),q];simp⟩⟩
 by_cases hbe:b=e
 ·subst hbe;exact heo
 ·exact⟨u,k b u hbe q⟩
end
noncomputable def trk(h:BE)(H:Hp):List BC:=(cI h.objs.size).filter λa=>(H a).isSome
noncomputable def xM(h:BE)(H:Hp):BE:=PySem.W.hideAll h<|trk h H
theorem aDL(h:BE)(H:Hp):(xM h H).objs.size=h.objs.size:=PySem.W.hideAll_size _ _
theorem aFw{b:BC}{o:BF}(e:h.get? b=some o)(n:H b=none):(xM h H).get? b=some o:=
 PySem.W.hideAll_get _ e λhm=>by have q:(H b).isSome=true:=(nF.mp hm).2;rw[n] at q;simp at q
theorem aIZ{b:BC}{o:BF}(e:(xM h H).get? b=some o):h.get? b=some o/\H b=none:=by
 have e':h.get? b=some o:=PySem.W.of_hideAll (trk h H) e;refine⟨e', ?_⟩;cases q:H b with
 |none=>rfl
 |some x=>have hm:b∈trk h H:=nF.mpr ⟨cE.mpr<|aK e',by simp[q]⟩;have z:(xM h H).get? b=none:=PySem.W.hideAll_none (trk h H) hm;rw[z] at e;cases e
noncomputable def aJk(g h:BE)(L:BC):List (BC×BF):=(cI h.objs.size).filterMap λa=>if a=L\/(g.get? a).isSome=true then none else(h.get? a).map λo=>(a,o)
noncomputable def rest(g h:BE)(L d:BC):List (BC×BF):=(aJk g h L).filter λp=>decide<|p.1≠d
structure Mod(K:aA)(mg:Str->Option BA)(base:BE):Prop where
 kin:K.In base
 glob:base.Ns AI mg
 blt:∃mb,base.Ns builtinsNs mb/\∀x:Str,x≠"__name__"->mb x=AT x
 nolimit:base.NoLimit
noncomputable def zK:HO->Prop
 |.lst _=>False
 |.dK _=>False
 |.ext _=>False
 |_=>True
structure Cx where
 prog:AD
 w:AG
 K:aA
 mg:Str->Option BA
 base:BE
 A:BD
 N:List Str
 s₀:BB
 H₀:Hp
 env:Env
 outer:List Env
 stack:List Env
 ex:List BC
 fn:Str->Bool
 calm:Bool
 pn:List (BC×BF)
 xe:BA->BB->Prop
 B₀:Hp:=H₀
 hB:∀b o,H₀ b=some o->zK o->B₀ b=some o:=by intro b o e _;exact e
noncomputable def frs(l:List Env):List BC:=l.filterMap (·.frame)
noncomputable abbrev Cx.fs(X:Cx):List BC:=frs X.outer
def Vis(sc:Scope)(x:Str):Prop:=sc.names.lookup x=some .local\/sc.names.lookup x=some .cell\/sc.names.lookup x=some .free
def Loc(sc:Scope)(x:Str):Prop:=sc.names.lookup x=some .local\/sc.names.lookup x=some .cell
def aOo(env:Env)(h:BE)(m:Str->Option BA)(x:Str)(u:BA):Prop:=
 (env.kindOf x=some .local/\m x=some u)\/((env.kindOf x=some .cell\/env.kindOf x=some .free)/\∃c,env.cells.lookup x=some c/\h.IsCell c (some u))
structure Cx.Ok(X:Cx):Prop where
 mod:Mod X.K X.mg X.base
 kind:X.env.scope.kind=.function
 glob:X.env.globals=AI
 blt:X.env.builtins=builtinsNs
 above:X.s₀.heap.objs.size<=X.env.locals
 inj:∀x y c,X.env.cells.lookup x=some c->X.env.cells.lookup y=some c->x=y
 has:∀x,(X.env.kindOf x=some .cell\/X.env.kindOf x=some .free)->∃c,X.env.cells.lookup x=some c
 cab:∀x c,X.fn x=true->X.env.cells.lookup x=some c->X.s₀.heap.objs.size<=c
 hd:X.calm=true->X.A.handled=none
 frames:X.A.frames=some X.stack
 stk:X.stack=X.outer\/(X.stack=X.env::X.outer/\X.env.frame=some X.env.locals)
 exf:∀b∈X.ex,b≠X.env.locals/\∀x c,X.env.cells.lookup x=some c->c≠b
 bs:∀b o,X.base.get? b=some o->X.s₀.heap.get? b=some o/\X.H₀ b=none
 bsz:X.base.objs.size<=X.s₀.heap.objs.size
 noex:∀b o,X.base.get? b=some o->b∉X.ex
 exfs:∀b∈X.ex,b∉X.fs
 funs:X.s₀.heap.FunFrames X.base X.outer
 frf:∀b∈X.fs,X.H₀ b=none
structure Inv(X:Cx)(pins:List (BC×BF))(σ:List (Option V))(H:Hp)(s:BB):Prop where
 ok:X.Ok
 os:s.os=X.s₀.os
 bare:AllBare s.gens
 base:Un X.fs X.ex X.H₀ H X.s₀.heap s.heap
 loc:∃m,s.heap.Ns X.env.locals m/\∀ (i:Nat) (x:Str) (v:V),X.N[i]? =some x->σ[i]? =some (some v)->Vis X.env.scope x->∃u,RelV v u/\aOo X.env s.heap m x u
 cell:∀x c,X.env.cells.lookup x=some c->∃v,s.heap.IsCell c v
 free:H X.env.locals=none
 freeC:∀x c,X.env.cells.lookup x=some c->H c=none
 pin:∀p∈X.pn++pins,s.heap.get? p.1=some p.2/\H p.1=none/\p.1≠X.env.locals/\p.1∉X.fs/\∀v,p.2.data≠ .cell v
 hok:HOk X.prog X.w H s.heap
 len:σ.length=X.N.length
variable {X:Cx}{pins:List (BC×BF)}{σ:List (Option V)}{s:BB}
theorem Cx.Ok.nofr(ok:X.Ok){b:BC}{o:BF}(e:X.base.get? b=some o):b∉X.fs:=λhb=>by have:=(ok.funs.mem hb).1;rw[e] at this;cases this
theorem Inv.bs(I:Inv X pins σ H s):∀b o,X.base.get? b=some o->s.heap.get? b=some o/\H b=none:=λb o e=>⟨I.base.keep b o (I.ok.bs b o e).1 (I.ok.bs b o e).2 (I.ok.nofr e)<|I.ok.noex b o e,I.base.free b o (I.ok.bs b o e).1 (I.ok.bs b o e).2<|I.ok.noex b o e⟩
theorem Inv.bk(I:Inv X pins σ H s):∀b o,X.base.get? b=some o->s.heap.get? b=some o:=λb o e=>(I.bs b o e).1
theorem Inv.mod(I:Inv X pins σ H s):Mod X.K X.mg X.base:=I.ok.mod
theorem Inv.kIn(I:Inv X pins σ H s):X.K.In s.heap:=I.ok.mod.kin.keeps I.bk
theorem Inv.lt(I:Inv X pins σ H s):X.env.locals<s.heap.objs.size:=let ⟨_,hn,_⟩:=I.loc;hn.lt
theorem Inv.sz(I:Inv X pins σ H s):X.s₀.heap.objs.size<=s.heap.objs.size:=aQ I.ok.above<|dW I.lt
theorem Inv.nofs(I:Inv X pins σ H s)(h:s.heap.objs.size<=a):a∉X.fs:=λhb=>by obtain⟨_,o,ho,_⟩:=I.ok.funs.mem hb;exact absurd (aX (aK ho)<|aQ I.sz h)<|eZ _
theorem Inv.cne(I:Inv X pins σ H s):∀x c,X.env.cells.lookup x=some c->c≠X.env.locals:=λx c e z=>by obtain⟨v,o,ho,hd⟩:=I.cell x c e;obtain⟨m,⟨o',es,ep,ho',hd',_⟩,_⟩:=I.loc;rw[z,ho'] at ho;cases ho;rw[hd'] at hd;cases hd
theorem Inv.funs(I:Inv X pins σ H s):s.heap.FunFrames X.base X.outer:=by
 have all:∀ (l:List Env),(∀b∈frs l,b∈X.fs)->X.s₀.heap.FunFrames X.base l->s.heap.FunFrames X.base l:=by
  intro l
  induction l with
  |nil=>intro _ _;trivial
  |cons env r ih=>
   intro hs hl;obtain⟨hk,⟨L,o,hf,hn,ho,hd⟩,hr⟩:=hl;have hL:L∈X.fs:=hs L (by unfold frs;rw[cT,hf];exact aM);obtain⟨sl,e⟩:=I.base.slot L o ho (I.ok.frf L hL) hL λz=>I.ok.exfs L z hL
   exact⟨hk,⟨L,_,hf,hn,e,hd⟩,ih (λb hb=>hs b<|by unfold frs;rw[cT,hf];exact aH _ hb) hr⟩
 exact all X.outer (λ_ hb=>hb) I.ok.funs
theorem Inv.stack(I:Inv X pins σ H s):s.heap.FunFrames X.base X.stack:=by
 rcases I.ok.stk with e|⟨e,hf⟩
 ·rw[e];exact I.funs
 ·rw[e];obtain⟨m,hn,_⟩:=I.loc;refine .cons (by rw[I.ok.kind];decide) hf hn ?_ I.funs;exact jB<|aQ I.ok.bsz I.ok.above
theorem Inv.stkSub(I:Inv X pins σ H s):∀b∈frs X.stack,b∈X.env.locals::X.fs:=λb hb=>by
 rcases I.ok.stk with e|⟨e,hf⟩
 ·rw[e] at hb;exact aH _ hb
 ·rw[e] at hb;unfold frs at hb;rw[cT,hf] at hb;exact hb
theorem Inv.stkFree(I:Inv X pins σ H s):∀b∈frs X.stack,H b=none:=λb hb=>by
 rcases aG.mp (I.stkSub b hb) with e|hb
 ·rw[e];exact I.free
 ·obtain⟨_,o,ho,_⟩:=I.ok.funs.mem hb;exact I.base.free b o ho (I.ok.frf b hb) λz=>I.ok.exfs b z hb
theorem Inv.step{g':Array GenState}{t':Nat}{d':Drawn}{ch:List BC}(I:Inv X pins σ H s)
  (hch:∀b∈ch,(b∈X.ex\/X.s₀.heap.objs.size<=b)/\b≠X.env.locals/\(∀x c,X.env.cells.lookup x=some c->c≠b)/\∀p∈X.pn++pins,p.1≠b)
  (keep:∀b o,b≠X.env.locals->b∉X.fs->b∉ch->s.heap.get? b=some o->H b=none->h'.get? b=some o)
  (slot:∀b o,b≠X.env.locals->b∈X.fs->b∉ch->s.heap.get? b=some o->H b=none->∃sl,h'.get? b=some {o with slots:=sl}) (free:∀b o,b∉ch->s.heap.get? b=some o->H b=none->H' b=none)
  (there:∀b o,b∉ch->s.heap.get? b=some o->∃o',h'.get? b=some o')
  (tups:∀b xs,H b=some (.tup xs)->H' b=some (.tup xs)) (frzs:∀b o u,H b=some (.frz o u)->H' b=some (.frz o u)) (tbls:∀b ps,H b=some (.tbl ps)->∃more,H' b=some (.tbl<|ps++more))
  (ns:∀m,s.heap.Ns X.env.locals m->h'.Ns X.env.locals m) (hok:HOk X.prog X.w H' h') (hg:AllBare g'):
  Inv X pins σ H' {s with heap:=h',gens:=g',drawn:=d',toks:=t'}:=by
 have neL:∀b o,X.s₀.heap.get? b=some o->b≠X.env.locals:=λb o e=>bG<|aX (aK e) I.ok.above
 have neC:∀b o,X.s₀.heap.get? b=some o->b∉X.ex->b∉ch:=λb o e hx hb=>by
  rcases(hch b hb).1 with z|z
  ·exact hx z
  ·exact absurd (aX (aK e) z)<|eZ _
 have cellK:∀x c,X.env.cells.lookup x=some c->∀v,s.heap.IsCell c v->h'.IsCell c v:=λx c e v ⟨o,ho,hd⟩=>by
  have nch:c∉ch:=λz=>(hch c z).2.2.1 x c e rfl
  by_cases hc:c∈X.fs
  ·obtain⟨sl,q⟩:=slot c o (I.cne x c e) hc nch ho<|I.freeC x c e;exact⟨_,q,hd⟩
  ·exact⟨o,keep c o (I.cne x c e) hc nch ho<|I.freeC x c e,hd⟩
 refine⟨I.ok,I.os,hg,⟨λb o e n hb hx=> ?_,λb o e n hb hx=> ?_,λb o e n hx=> ?_,λb o e hx=> ?_,λb xs e=>tups b xs<|I.base.tups b xs e,λb o xs e=>frzs b o xs<|I.base.frzs b o xs e,λb ps e=> ?_⟩, ?_,λx c e=> ?_, ?_,λx c e=> ?_,λp hp=> ?_,hok,I.len⟩
 ·exact keep b o (neL b o e) hb (neC b o e hx) (I.base.keep b o e n hb hx)<|I.base.free b o e n hx
 ·obtain⟨sl,e1⟩:=I.base.slot b o e n hb hx;obtain⟨sl',e2⟩:=slot b _ (neL b o e) hb (neC b o e hx) e1<|I.base.free b o e n hx;exact⟨sl',e2⟩
 ·obtain⟨o',e1⟩:=I.base.there b o e hx;exact free b o' (neC b o e hx) e1<|I.base.free b o e n hx
 ·obtain⟨o',e1⟩:=I.base.there b o e hx;exact there b o' (neC b o e hx) e1
 ·obtain⟨m1,e1⟩:=I.base.tbls b ps e;obtain⟨m2,e2⟩:=tbls b _ e1;exact⟨m1++m2,by rw[e2,Array.append_assoc]⟩
 ·obtain⟨m,hn,hl⟩:=I.loc;refine⟨m,ns m hn,λi x v e1 e2 e3=> ?_⟩;obtain⟨u,r,l⟩:=hl i x v e1 e2 e3;refine⟨u,r, ?_⟩
  rcases l with l|⟨k,c,e,z⟩
  ·exact .inl l
  ·exact .inr ⟨k,c,e,cellK x c e _ z⟩
 ·obtain⟨v,z⟩:=I.cell x c e;exact⟨v,cellK x c e v z⟩
 ·obtain⟨m,⟨o,_,_,ho,_⟩,_⟩:=I.loc;exact free _ o (λz=>(hch _ z).2.1 rfl) ho I.free
 ·obtain⟨v,o,ho,hd⟩:=I.cell x c e;exact free c o (λz=>(hch c z).2.2.1 x c e rfl) ho<|I.freeC x c e
 ·obtain⟨e,n,ne,nf,d⟩:=I.pin p hp;have nch:p.1∉ch:=λz=>(hch p.1 z).2.2.2 p hp rfl
  exact⟨keep p.1 p.2 ne nf nch e n,free p.1 p.2 nch e n,ne,nf,d⟩
theorem Inv.un{t':Nat}(I:Inv X pins σ H s)(u:Un X.fs [] H H' s.heap h')(hok:HOk X.prog X.w H' h'):Inv X pins σ H' {s with heap:=h',toks:=t'}:=by
 obtain⟨m,⟨o,es,ep,ho,r⟩,_⟩:=id I.loc;obtain⟨sl,hL⟩:=u.any ho I.free<|by simp
 exact I.step (g':=s.gens) (d':=s.drawn) (ch:=[]) (fun _ z=>nomatch z) (fun b o _ hb _ e n=>u.keep b o e n hb (by simp)) (fun b o _ hb _ e n=>u.slot b o e n hb (by simp)) (fun b o _ e n=>u.free b o e n (by simp)) (fun b o _ e=>u.there b o e (by simp)) u.tups u.frzs u.tbls (fun m' hm=>by
  obtain⟨o',es',ep',ho',r'⟩:=hm;rw[ho] at ho';cases ho'
  exact⟨_,es',ep',hL,r'⟩) hok I.bare
theorem Inv.call{g':Array GenState}{t':Nat}{d':Drawn}{ch:List BC}(I:Inv X pins σ H s)(u:Un (frs X.stack) ch H H' s.heap h')(hok:HOk X.prog X.w H' h')(hg:AllBare g')
  (hch:∀b∈ch,(b∈X.ex\/X.s₀.heap.objs.size<=b)/\b≠X.env.locals/\(∀x c,X.env.cells.lookup x=some c->c≠b)/\∀p∈X.pn++pins,p.1≠b):
  Inv X pins σ H' {s with heap:=h',gens:=g',drawn:=d',toks:=t'}:=by
 obtain⟨m,⟨o,es,ep,ho,r⟩,_⟩:=id I.loc;obtain⟨sl,hL⟩:=u.any ho I.free λz=>(hch _ z).2.1 rfl
 exact I.step (ch:=ch) hch (fun b o hL hb hc e n=>u.keep b o e n (fun z=>(aG.mp (I.stkSub b z)).elim hL hb) hc) (fun b o _ _ hc e n=>u.any e n hc) (fun b o hc e n=>u.free b o e n hc) (fun b o hc e=>u.there b o e hc) u.tups u.frzs u.tbls (fun m' hm=>by
  obtain⟨o',es',ep',ho',r'⟩:=hm;rw[ho] at ho';cases ho'
  exact⟨_,es',ep',hL,r'⟩) hok hg
theorem Inv.turned{t':Nat}{it:BC}(I:Inv X pins σ H s)(k:∀b o,b≠it->s.heap.get? b=some o->h'.get? b=some o)(hn:H it=none)(hL:it≠X.env.locals)
  (h1:it∈X.ex\/X.s₀.heap.objs.size<=it) (h2:∀x c,X.env.cells.lookup x=some c->c≠it) (h3:∀p∈X.pn++pins,p.1≠it):Inv X pins σ H {s with heap:=h',toks:=t'}:=by
 have nit:∀b u,H b=some u->b≠it:=λb u e z=>by rw[z,hn] at e;cases e
 refine I.step (g':=s.gens) (d':=s.drawn) (ch:=[it]) (λb hb=> ?_) (λb o _ _ hc e _=>k b o (λz=>hc<|by simp[z]) e) (λb o _ _ hc e _=>⟨o.slots,k b o (λz=>hc<|by simp[z]) e⟩) (λ_ _ _ _ n=>n)
  (λb o hc e=>⟨o,k b o (λz=>hc<|by simp[z]) e⟩) (λ_ _ e=>e) (λ_ _ _ e=>e) (λb ps e=>⟨#[],by rw[e];simp⟩) (λm hm=> ?_) (λb u e=> ?_) I.bare
 ·have e:b=it:=by simpa using hb
  subst e;exact⟨h1,hL,h2,h3⟩
 ·obtain⟨o,es,ep,ho,r⟩:=hm;exact⟨o,es,ep,k _ o (Ne.symm hL) ho,r⟩
 ·refine(I.hok b u e).stay (λc v hc q=>k c v ?_ q) (λ_ q=>q) λ_ _ q=>q
  rcases hc with z|z
  ·rw[z];exact nit b u e
  ·exact nit c _ z
theorem Inv.tok(I:Inv X pins σ H s)(t:Nat):Inv X pins σ H {s with toks:=t}:=I.un (h':=s.heap) (t':=t) Un.refl I.hok
theorem Inv.kept{t':Nat}(I:Inv X pins σ H s)(k:∀b u,s.heap.get? b=some u->h'.get? b=some u):Inv X pins σ H {s with heap:=h',toks:=t'}:=I.un (Un.kept k)<|I.hok.kept k
theorem Inv.laid{t':Nat}(I:Inv X pins σ H s)(k:∀b u,s.heap.get? b=some u->h'.get? b=some u)(hp:s.heap.objs.size<=a)(new:ObjOk X.prog X.w (upd H a o) h' a o):
  Inv X pins σ (upd H a o) {s with heap:=h',toks:=t'}:=I.un (Un.laid k hp<|I.hok.fresh hp)<|I.hok.laid k hp new
theorem Inv.write{t':Nat}(I:Inv X pins σ H s)(mu:Mut (H x))(he:e=x\/H e=some (.own x))(k:∀b u,b≠e->s.heap.get? b=some u->h'.get? b=some u)(heo:∃u,h'.get? e=some u)
  (new:ObjOk X.prog X.w (upd H x o) h' x o):Inv X pins σ (upd H x o) {s with heap:=h',toks:=t'}:=I.un (Un.write mu he k heo)<|I.hok.write mu he k heo new
theorem Inv.pins_of{pins':List (BC×BF)}(I:Inv X pins σ H s)(h:∀p∈pins',s.heap.get? p.1=some p.2/\H p.1=none/\p.1≠X.env.locals/\p.1∉X.fs/\∀v,p.2.data≠ .cell v):Inv X pins' σ H s:=
 ⟨I.ok,I.os,I.bare,I.base,I.loc,I.cell,I.free,I.freeC,λp hp=>(aW.mp hp).elim (λz=>I.pin p<|bH _ z)<|h p,I.hok,I.len⟩
theorem uQ{N:List Str}(hN:N.Nodup){i j:Nat}{x:Str}(a:N[i]? =some x)(b:N[j]? =some x):i=j:=by obtain⟨h1,e1⟩:=bF.mp a;obtain⟨h2,e2⟩:=bF.mp b;exact(List.getElem_inj hN).mp<|e1.trans e2.symm
theorem aEi{M:Model}{A:BD}{E:BA->BB->Prop}{i:Nat}{x:Str}{v:V}{u:BA}{Q:Unit->BB->Prop}(I:Inv X pins σ H s)(hN:X.N.Nodup)(hi:X.N[i]? =some x)(hx:Loc X.env.scope x)(r:RelV v u)
  (h:∀s',Inv X pins (σ.set i (some v)) H s'->(∃a,Heap.SameBut a s.heap s'.heap/\(a=X.env.locals\/X.env.cells.lookup x=some a))->Q () s') (hf:X.fn x=true\/X.env.scope.names.lookup x=some .local:=by first|exact .inl rfl|exact .inr rfl|assumption):AE M A (storeName X.env x u) Q E s:=by
 obtain⟨m,hn,hl⟩:=id I.loc;have hcls:(X.env.scope.kind==.class||(X.env.scope.kind==.module&&X.env.locals !=X.env.globals))=false:=by rw[I.ok.kind];rfl
 have hiσ:i<σ.length:=by rw[I.len];exact(bF.mp hi).1
 have cne:=I.cne
 have tracked:∀ {a:BC}{h':BE},(∃o,s.heap.get? a=some o/\H a=none)->Heap.SameBut a s.heap h'->HOk X.prog X.w H h':=λ{a h'} ha hs b ob e=>by
  obtain⟨_,_,hfree⟩:=ha;refine(I.hok b ob e).stay (λc w' hc q=>(hs.2 c ?_).trans q) (λ_ q=>q) λ_ _ q=>q
  rintro rfl
  rcases hc with rfl|hc
  ·rw[hfree] at e;cases e
  ·rw[hfree] at hc;cases hc
 rcases hx with hk|hk
 ·refine wpAny_storeName_local hk hn (λh' hn' hs=> ?_) hcls;obtain⟨oL,_,_,hoL,_⟩:=id hn;refine h _ ⟨I.ok,I.os,I.bare,⟨λb o e n hb hx=> ?_,λb o e n hb hx=> ?_,I.base.free,λb o e hx=> ?_,I.base.tups,I.base.frzs,I.base.tbls⟩,⟨_,hn',λj y v' e1 e2 e3=> ?_⟩,λy c e=> ?_,I.free,I.freeC,λp hp=> ?_,tracked ⟨oL,hoL,I.free⟩ hs,by simpa using I.len⟩ ⟨_,hs,.inl rfl⟩
  ·exact(hs.2 b (bG<|aX (aK e) I.ok.above)).trans<|I.base.keep b o e n hb hx
  ·obtain⟨sl,e1⟩:=I.base.slot b o e n hb hx;exact⟨sl,(hs.2 b (bG<|aX (aK e) I.ok.above)).trans e1⟩
  ·obtain⟨o',e1⟩:=I.base.there b o e hx;exact⟨o',(hs.2 b (bG<|aX (aK e) I.ok.above)).trans e1⟩
  ·by_cases hj:j=i
   ·subst hj;rw[hi] at e1;cases e1;rw[mR hiσ] at e2;cases e2;exact⟨u,r,.inl ⟨hk,by simp⟩⟩
   ·rw[iZ<|Ne.symm hj] at e2;obtain⟨u',r',q⟩:=hl j y v' e1 e2 e3;refine⟨u',r', ?_⟩
    rcases q with⟨k,e⟩|⟨k,c,e,z⟩
    ·refine .inl ⟨k, ?_⟩;have:y≠x:=λe=>hj (uQ hN e1<|e▸hi)
     simp[this,e]
    ·exact .inr ⟨k,c,e,z.sameBut hs<|cne y c e⟩
  ·obtain⟨w',z⟩:=I.cell y c e;exact⟨w',z.sameBut hs<|cne y c e⟩
  ·obtain⟨e,n,ne,nf,d⟩:=I.pin p hp;exact⟨(hs.2 p.1 ne).trans e,n,ne,nf,d⟩
 ·have hfn:X.fn x=true:=by
   rcases hf with z|z
   ·exact z
   ·rw[z] at hk;cases hk
  obtain⟨c,hc⟩:=I.ok.has x<|.inl hk;obtain⟨w',z⟩:=I.cell x c hc;refine wpAny_storeName_cell I.ok.kind hk hc z λh' hc' hs=> ?_;obtain⟨oc,hoc,hocd⟩:=id z;refine h {s with heap:=h'} ⟨I.ok,I.os,I.bare,⟨λb o e n hb hx=> ?_,λb o e n hb hx=> ?_,I.base.free,λb o e hx=> ?_,I.base.tups,I.base.frzs,I.base.tbls⟩,⟨m,hn.sameBut hs (Ne.symm<|cne x c hc),λj y v' e1 e2 e3=> ?_⟩,λy c' e=> ?_,I.free,I.freeC,λp hp=> ?_,tracked ⟨oc,hoc,I.freeC x c hc⟩ hs,by simpa using I.len⟩ ⟨c,hs,.inr hc⟩
  ·exact(hs.2 b<|bG (aX (aK e)<|I.ok.cab x c hfn hc)).trans<|I.base.keep b o e n hb hx
  ·obtain⟨sl,e1⟩:=I.base.slot b o e n hb hx;exact⟨sl,(hs.2 b<|bG (aX (aK e)<|I.ok.cab x c hfn hc)).trans e1⟩
  ·obtain⟨o',e1⟩:=I.base.there b o e hx;exact⟨o',(hs.2 b<|bG (aX (aK e)<|I.ok.cab x c hfn hc)).trans e1⟩
  ·by_cases hj:j=i
   ·subst hj;rw[hi] at e1;cases e1;rw[mR hiσ] at e2;cases e2;exact⟨u,r,.inr ⟨.inl hk,c,hc,hc'⟩⟩
   ·rw[iZ<|Ne.symm hj] at e2;obtain⟨u',r',q⟩:=hl j y v' e1 e2 e3;refine⟨u',r', ?_⟩
    rcases q with q|⟨k,c',e,z'⟩
    ·exact .inl q
    ·refine .inr ⟨k,c',e,z'.sameBut hs ?_⟩;rintro rfl;exact hj (uQ hN e1<|I.ok.inj _ _ _ e hc▸hi)
  ·by_cases hcc:c'=c
   ·subst hcc;exact⟨_,hc'⟩
   ·obtain⟨w2,z2⟩:=I.cell y c' e;exact⟨w2,z2.sameBut hs hcc⟩
  ·obtain⟨e,n,ne,nf,d⟩:=I.pin p hp;refine⟨(hs.2 p.1 ?_).trans e,n,ne,nf,d⟩;intro q;rw[q,hoc] at e;have q':oc=p.2:=cC.inj e;exact d w' (by rw[<-q'];exact hocd)
theorem pO{M:Model}{A:BD}{E:BA->BB->Prop}{i:Nat}{x:Str}{v:V}{u:BA}{Q:Unit->BB->Prop}(I:Inv X pins σ H s)(hN:X.N.Nodup)(hi:X.N[i]? =some x)(hx:Loc X.env.scope x)(r:RelV v u)
  (h:∀s',Inv X pins (σ.set i (some v)) H s'->Q () s') (hf:X.fn x=true\/X.env.scope.names.lookup x=some .local:=by first|exact .inl rfl|exact .inr rfl|assumption):AE M A (storeName X.env x u) Q E s:=
 aEi I hN hi hx r (λs' I' _=>h s' I') hf
theorem Inv.call'{s':BB}{ch:List BC}(I:Inv X pins σ H s)(ho:s'.os=s.os)(u:Un (frs X.stack) ch H H' s.heap s'.heap)(hok:HOk X.prog X.w H' s'.heap)(hg:AllBare s'.gens)
  (hch:∀b∈ch,(b∈X.ex\/X.s₀.heap.objs.size<=b)/\b≠X.env.locals/\(∀x c,X.env.cells.lookup x=some c->c≠b)/\∀p∈X.pn++pins,p.1≠b):Inv X pins σ H' s':=by
 obtain⟨h',g',d',t',o'⟩:=s';have e:o'=s.os:=ho;subst e;exact I.call (g':=g') (t':=t') (d':=d') u hok hg hch
noncomputable abbrev XK:=BA->Option BC->Hp->Prop
noncomputable abbrev St:=List<|Option V
noncomputable abbrev VK:=V->Hp->Prop
noncomputable abbrev TE:=St->Hp->VK->Prop
noncomputable abbrev TT:=St->Hp->(Bool->Hp->Prop)->Prop
noncomputable abbrev TA:=St->Hp->(List V->Hp->Prop)->Prop
structure sJ where
 nx:St->Hp->Prop
 rt:VK
 bk:St->Hp->Prop:=λ_ _=>False
 ct:St->Hp->Prop:=λ_ _=>False
noncomputable abbrev TS:=sJ->St->Hp->Prop
def EP(X:Cx)(pins:List (BC×BF))(σ:St)(Q:VK)(u:BA)(s':BB):Prop:=∃v H',Inv X pins σ H' s'/\RelV v u/\Q v H'
def TP(X:Cx)(pins:List (BC×BF))(σ:St)(Q:Bool->Hp->Prop)(b:Bool)(s':BB):Prop:=∃H',Inv X pins σ H' s'/\Q b H'
def AP(X:Cx)(pins:List (BC×BF))(σ:St)(Q:List V->Hp->Prop)(us:List BA)(s':BB):Prop:=∃vs H',Inv X pins σ H' s'/\Vals vs us/\Q vs H'
def SP(X:Cx)(pins:List (BC×BF))(D:sJ)(f:Flow)(s':BB):Prop:=
 match f with
 |.next=>∃σ' H',Inv X pins σ' H' s'/\D.nx σ' H'
 |.brk=>∃σ' H',Inv X pins σ' H' s'/\D.bk σ' H'
 |.cont=>∃σ' H',Inv X pins σ' H' s'/\D.ct σ' H'
 |.ret u=>∃v σ' H',Inv X pins σ' H' s'/\RelV v u/\D.rt v H'
def PE(X:Cx)(e:Expr)(t:TE):Prop:=
 ∀ (pins:List (BC×BF)) (s:BB) (σ:St) (H:Hp) (Q:VK),Inv X pins σ H s->t σ H Q->AE (AF X.prog X.w) X.A (eval e X.env) (EP X pins σ Q) X.xe s
def PT(X:Cx)(e:Expr)(t:TT):Prop:=
 ∀ (pins:List (BC×BF)) (s:BB) (σ:St) (H:Hp) (Q:Bool->Hp->Prop),Inv X pins σ H s->t σ H Q->AE (AF X.prog X.w) X.A (isTrue e X.env<|eval e X.env) (TP X pins σ Q) X.xe s
def PW(X:Cx)(e:Expr)(t:TT):Prop:=
 ∀ (whole:Sem BA) (pins:List (BC×BF)) (s:BB) (σ:St) (H:Hp) (Q:Bool->Hp->Prop),Inv X pins σ H s->t σ H Q->AE (AF X.prog X.w) X.A (isTrue e X.env whole) (TP X pins σ Q) X.xe s
theorem PW.pt{e:Expr}{t:TT}(h:PW X e t):PT X e t:=h _
def PA(X:Cx)(es:List Expr)(t:TA):Prop:=
 ∀ (pos:Pos) (pins:List (BC×BF)) (s:BB) (σ:St) (H:Hp) (Q:List V->Hp->Prop),Inv X pins σ H s->t σ H Q->AE (AF X.prog X.w) X.A (spliced (AX pos<|AB es X.env)) (AP X pins σ Q) X.xe s
def PS(X:Cx)(st:BG)(t:TS):Prop:=
 ∀ (pins:List (BC×BF)) (s:BB) (σ:St) (H:Hp) (D:sJ),Inv X pins σ H s->t D σ H->AE (AF X.prog X.w) X.A (exec st X.env) (SP X pins D) X.xe s
def PSs(X:Cx)(st:List BG)(t:TS):Prop:=
 ∀ (pins:List (BC×BF)) (s:BB) (σ:St) (H:Hp) (D:sJ),Inv X pins σ H s->t D σ H->AE (AF X.prog X.w) X.A (execs st X.env) (SP X pins D) X.xe s
theorem thn{α:Type}{t:Sem α}{Q Q':α->BB->Prop}{M:Model}{A:BD}{E:BA->BB->Prop}(h:AE M A t Q E s)(hQ:∀a s,Q a s->Q' a s):AE M A t Q' E s:=AY h hQ λ_ _ x=>x
noncomputable def mU(i:Nat):TE:=λσ H Q=>∃v,σ[i]? =some (some v)/\Q v H
noncomputable def tC(v:V):TE:=λ_ H Q=>Q v H
theorem aLN{i:Nat}{x:Str}{pos:Pos}(hN:X.N[i]? =some x)(hv:Vis X.env.scope x)(hd:(x==("__debug__":Str))=false:=by decide)(hcd:(x==("__classdict__":Str))=false:=by decide):PE X (.Name x pos) (mU i):=by
 intro pins s σ H Q I h;obtain⟨v,e,h⟩:=h;obtain⟨m,hn,hl⟩:=I.loc;obtain⟨u,r,l⟩:=hl i x v hN e hv;have fin:EP X pins σ Q u s:=⟨v,H,I,r,h⟩
 rcases l with⟨hk,hm⟩|⟨hk,c,hc,hcell⟩
 ·exact wpAny_Name (wpAny_loadName_local I.ok.kind hk hn hm fin) hd
 ·rcases hk with hk|hk
  ·exact wpAny_Name (wpAny_loadName_cell I.ok.kind hk hc hcell fin) hd
  ·exact wpAny_Name (wpAny_loadName_free I.ok.kind hk hc hcell fin hcd) hd
theorem pe_int{i j pos}:PE X (.Constant (.int i) j pos) (tC<|.int i):=λ_ _ _ H _ I h=>wpAny_Constant_int ⟨.int i,H,I.tok _,⟨_,rfl⟩,h⟩
theorem pe_bl{b j pos}:PE X (.Constant (.bool b) j pos) (tC<|.bl b):=λ_ _ _ H _ I h=>Constant_bool ⟨.bl b,H,I,rfl,h⟩
theorem pe_non{j pos}:PE X (.Constant .none j pos) (tC .non):=λ_ _ _ H _ I h=>Constant_none ⟨.non,H,I,rfl,h⟩
theorem pe_str{x j pos}:PE X (.Constant (.str x) j pos) (tC<|.str x):=λ_ _ _ H _ I h=>Calls.Constant_str ⟨.str x,H,I.tok _,⟨_,rfl⟩,h⟩
def Gl(X:Cx)(x:Str):Prop:=X.env.kindOf x=some .globalImplicit
theorem pM{E:BA->BB->Prop}{σ:St}{x:Str}{u:BA}{pos:Pos}{Q:BA->BB->Prop}(I:Inv X pins σ H s)(hg:Gl X x)(hm:X.mg x=some u)(h:Q u s)
  (hd:(x==("__debug__":Str))=false:=by decide):AE (AF X.prog X.w) X.A (eval (.Name x pos) X.env) Q E s:=
 Calls.Name_function_global I.ok.kind hg (Calls.loadGlobal_global (by rw[I.ok.glob];exact I.mod.glob.keeps I.bk) hm h) hd
theorem nE{E:BA->BB->Prop}{σ:St}{x:Str}{u:BA}{pos:Pos}{Q:BA->BB->Prop}(I:Inv X pins σ H s)(hg:Gl X x)(hm:X.mg x=none)(hv:AT x=some u)(h:Q u s)
  (hn:x≠"__name__":=by decide) (hd:(x==("__debug__":Str))=false:=by decide):AE (AF X.prog X.w) X.A (eval (.Name x pos) X.env) Q E s:=by
 obtain⟨mb,h1,h2⟩:=I.mod.blt;exact Calls.Name_function_global I.ok.kind hg (Calls.loadGlobal_builtin (by rw[I.ok.glob];exact I.mod.glob.keeps I.bk) hm (by rw[I.ok.blt];exact h1.keeps I.bk) ((h2 x hn).trans hv) h) hd
theorem pG{x:Str}{v:V}{u:BA}{pos:Pos}(hg:Gl X x)(hm:X.mg x=some u)(r:RelV v u)(hd:(x==("__debug__":Str))=false:=by decide):PE X (.Name x pos) (tC v):=
 λ_ _ _ H _ I h=>pM I hg hm ⟨v,H,I,r,h⟩ hd
theorem aIb{x:Str}{v:V}{u:BA}{pos:Pos}(hg:Gl X x)(hm:X.mg x=none)(hv:AT x=some u)(r:RelV v u)(hn:x≠"__name__":=by decide)(hd:(x==("__debug__":Str))=false:=by decide):PE X (.Name x pos) (tC v):=
 λ_ _ _ H _ I h=>nE I hg hm hv ⟨v,H,I,r,h⟩ hn hd
def t2I(ta tb:TE)(k:Int->Int->Hp->Prop):St->Hp->Prop:=λσ H=>ta σ H λx H1=>tb σ H1 λy H2=>∃i j,x=.int i/\y=.int j/\k i j H2
variable {a b:Expr}{ta tb:TE}{pos:Pos}
noncomputable def aJx(p:Int->Int->Bool)(ta tb:TE):TE:=λσ H Q=>t2I ta tb (λi j H2=>Q (.bl<|p i j) H2) σ H
noncomputable abbrev tLt:TE->TE->TE:=aJx λi j=>decide<|i<j
noncomputable abbrev tLe:TE->TE->TE:=aJx λi j=>decide<|i<=j
noncomputable abbrev tGt:TE->TE->TE:=aJx λi j=>decide<|j<i
noncomputable abbrev tGe:TE->TE->TE:=aJx λi j=>decide<|j<=i
noncomputable abbrev tEqI:TE->TE->TE:=aJx λi j=>decide<|i=j
noncomputable abbrev tNeI:TE->TE->TE:=aJx λi j=> !decide (i=j)
noncomputable def tB(t:TE):TT:=λσ H Q=>t σ H λx H1=>∃c,x=.bl c/\Q c H1
theorem aKX{e:Expr}{t:TE}(h:PE X e t)(he:∀whole,isTrue e X.env whole=(do let v <-whole;standAt e.pos;holding [v] (truthy v)):=by intro _;rfl):PT X e (tB t):=by intro pins s σ H Q I hw;refine isTrue_plain (thn (h pins s σ H _ I hw) λv s1 ⟨x,H1,I1,r1,q1⟩=> ?_)<|he _;obtain⟨d,rfl,q⟩:=q1;cases r1;exact AU ⟨H1,I1,q⟩
variable {tA tB':TT}{rest:List Expr}
noncomputable def tAnd(t u:TT):TT:=λσ H Q=>t σ H λc H1=>if c=true then u σ H1 Q else Q false H1
noncomputable def tOr(t u:TT):TT:=λσ H Q=>t σ H λc H1=>if c=true then Q true H1 else u σ H1 Q
noncomputable def tNot(t:TT):TT:=λσ H Q=>t σ H λc H1=>Q (!c) H1
theorem aHS(ha:PT X a tA):PW X (.BoolOp .And [a] pos) tA:=by
 intro wh pins s σ H Q I h;refine isTrue_and<|thn (ha pins s σ H Q I h) λc s1 e=> ?_;cases c with
 |true=>exact isTrue_and_nil e
 |false=>exact e
theorem aLt(ha:PT X a tA):PW X (.BoolOp .Or [a] pos) tA:=by
 intro wh pins s σ H Q I h;refine isTrue_or<|thn (ha pins s σ H Q I h) λc s1 e=> ?_;cases c with
 |false=>exact isTrue_or_nil e
 |true=>exact e
theorem aLP(ha:PT X a tA)(hb:PW X (.BoolOp .And (b::rest) pos) tB'):PW X (.BoolOp .And (a::b::rest) pos) (tAnd tA tB'):=by
 intro wh pins s σ H Q I h;refine isTrue_and<|thn (ha pins s σ H _ I h) λc s1 ⟨H1,I1,q1⟩=> ?_;cases c with
 |true=>exact hb wh pins s1 σ H1 Q I1 q1
 |false=>exact⟨H1,I1,q1⟩
theorem aNq(ha:PT X a tA)(hb:PW X (.BoolOp .Or (b::rest) pos) tB'):PW X (.BoolOp .Or (a::b::rest) pos) (tOr tA tB'):=by
 intro wh pins s σ H Q I h;refine isTrue_or<|thn (ha pins s σ H _ I h) λc s1 ⟨H1,I1,q1⟩=> ?_;cases c with
 |true=>exact⟨H1,I1,q1⟩
 |false=>exact hb wh pins s1 σ H1 Q I1 q1
theorem aKR(ha:PT X a tA):PT X (.UnaryOp .Not a pos) (tNot tA):=by intro pins s σ H Q I h;exact isTrue_not<|ha pins s σ H (λc H1=>Q (!c) H1) I h
noncomputable def aNP(ta tb:TE):TE:=λσ H Q=>ta σ H λx H1=>∃c,x=.bl c/\if c=true then tb σ H1 Q else Q (.bl false) H1
noncomputable def aNp(ta:TE):TE:=λσ H Q=>ta σ H λx H1=>∃c,x=.bl c/\Q (.bl<|!c) H1
theorem aLF{op}{t:TE}(h:PE X a t):PE X (.BoolOp op [a] pos) t:=λpins s σ H Q I hw=>BoolOp_one<|h pins s σ H Q I hw
theorem aLv(ha:PE X a ta)(hb:PE X (.BoolOp .And (b::rest) pos) tb):PE X (.BoolOp .And (a::b::rest) pos) (aNP ta tb):=by
 intro pins s σ H Q I h;refine BoolOp_and<|thn (ha pins s σ H _ I h) λv s1 ⟨x,H1,I1,r1,q1⟩=> ?_;obtain⟨c,rfl,q1⟩:=q1;cases r1;refine AU ?_;cases c with
 |true=>exact hb pins s1 σ H1 Q I1 q1
 |false=>exact⟨.bl false,H1,I1,rfl,q1⟩
theorem aLE(ha:PE X a ta):PE X (.UnaryOp .Not a pos) (aNp ta):=by intro pins s σ H Q I h;refine UnaryOp_<|thn (ha pins s σ H _ I h) λv s1 ⟨x,H1,I1,r1,q1⟩=> ?_;obtain⟨c,rfl,q1⟩:=q1;cases r1;exact not_of<|AU ⟨.bl<|!c,H1,I1,rfl,q1⟩
def SqL(K:aA)(H:Hp)(a:BC)(xs:List V):Prop:=
 Rd H a (.lst xs)\/
  ∃ (o:BF) (its:Array BA) (n:Nat),K.lookup a=some o/\o.cls=.type "list"/\o.dict=none/\o.data=.seq its n/\its.size<=AH/\Vals xs its.toList
def SqT(K:aA)(H:Hp)(a:BC)(xs:List V):Prop:=
 Rd H a (.tup xs)\/
  ∃ (o:BF) (its:Array BA) (n:Nat),K.lookup a=some o/\o.cls=.type "tuple"/\o.data=.seq its n/\its.size<=AH/\Vals xs its.toList
noncomputable def absV:BA->Option V
 |.none=>some .non
 |.bool b=>some<|.bl b
 |.int i _=>some<|.int i
 |.str x _=>some<|.str x
 |.bytes b _=>some<|.byt b
 |.float b _=>some<|.flt b
 |.ref a=>some<|.ref a
 |.type n=>some<|.ty n
 |_=>none
theorem RelV.abs{x:V}{u:BA}(r:RelV x u):absV u=some x:=by
 cases x with
 |non=>cases r;rfl
 |bl _=>cases r;rfl
 |int _=>obtain⟨t,rfl⟩:=r;rfl
 |str _=>obtain⟨t,rfl⟩:=r;rfl
 |byt _=>obtain⟨t,rfl⟩:=r;rfl
 |flt _=>obtain⟨t,rfl⟩:=r;rfl
 |ref _=>cases r;rfl
 |ty _=>cases r;rfl
theorem RelV.inj{x y:V}{u:BA}(r:RelV x u)(q:RelV y u):x=y:=cC.inj<|r.abs.symm.trans q.abs
theorem Vals.inj:∀ {xs ys:List V}{us:List BA},Vals xs us->Vals ys us->xs=ys
 |_,_,_,.nil,.nil=>rfl
 |_,_,_,.cons r t,.cons r' t'=>by rw[r.inj r',Vals.inj t t']
variable {σ:St}{a:BC}{xs ys:List V}
theorem SqL.of{K:aA}(h:H a=some (.lst xs)):SqL K H a xs:=.inl<|.inl h
theorem SqT.of{K:aA}(h:H a=some (.tup xs)):SqT K H a xs:=.inl<|.inl h
theorem Inv.list(I:Inv X pins σ H s)(h:SqL X.K H a xs):∃its:List BA,Vals xs its/\PlainL s.heap a its.toArray/\xs.length<=AH:=by
 rcases h with h|⟨o,its,n,hk,hc,hd,hs,hz,r⟩
 ·obtain⟨z,its,n,r,e⟩:=h.ok I.hok;exact⟨its,r,⟨_,n,e,rfl,rfl,rfl⟩,z⟩
 ·refine⟨its.toList,r,⟨o,n,I.kIn a o hk,hc,hd,by simpa using hs⟩, ?_⟩;have e:=r.length;simp only[cY] at e;omega
theorem Inv.tuple(I:Inv X pins σ H s)(h:SqT X.K H a xs):∃its:List BA,Vals xs its/\IsTup s.heap a its.toArray/\xs.length<=AH:=by
 rcases h with h|⟨o,its,n,hk,hc,hs,hz,r⟩
 ·obtain⟨z,its,r,p⟩:=h.ok I.hok;exact⟨its,r,p.tup,z⟩
 ·refine⟨its.toList,r,⟨o,I.kIn a o hk,hc,n,by simpa using hs⟩, ?_⟩;have e:=r.length;simp only[cY] at e;omega
theorem Inv.list_inj(I:Inv X pins σ H s)(h:SqL X.K H a xs)(h':SqL X.K H a ys):xs=ys:=by
 obtain⟨its,r,⟨o,n,e,_,_,d⟩,_⟩:=I.list h;obtain⟨its',r',⟨o',n',e',_,_,d'⟩,_⟩:=I.list h';rw[e] at e';cases e';rw[d] at d';injection d' with d1 _
 have:its=its':=by simpa using congrArg aMC d1
 subst this;exact r.inj r'
theorem Inv.tuple_inj(I:Inv X pins σ H s)(h:SqT X.K H a xs)(h':SqT X.K H a ys):xs=ys:=by
 obtain⟨its,r,⟨o,e,_,n,d⟩,_⟩:=I.tuple h;obtain⟨its',r',⟨o',e',_,n',d'⟩,_⟩:=I.tuple h';rw[e] at e';cases e';rw[d] at d';injection d' with d1 _
 have:its=its':=by simpa using congrArg aMC d1
 subst this;exact r.inj r'
noncomputable abbrev Cx.wish(X:Cx)(E:BA->BB->Prop):Cx:={X with xe:=E}
noncomputable abbrev Cx.nox(X:Cx):Cx:=X.wish λ_ _=>False
theorem Cx.Ok.wish(ok:X.Ok)(E:BA->BB->Prop):(X.wish E).Ok:=
 ⟨ok.mod,ok.kind,ok.glob,ok.blt,ok.above,ok.inj,ok.has,ok.cab,ok.hd,ok.frames,ok.stk,ok.exf,ok.bs,ok.bsz,ok.noex,ok.exfs,ok.funs,ok.frf⟩
theorem Cx.Ok.unwish{E:BA->BB->Prop}(ok:(X.wish E).Ok):X.Ok:=
 ⟨ok.mod,ok.kind,ok.glob,ok.blt,ok.above,ok.inj,ok.has,ok.cab,ok.hd,ok.frames,ok.stk,ok.exf,ok.bs,ok.bsz,ok.noex,ok.exfs,ok.funs,ok.frf⟩
variable {E:BA->BB->Prop}
theorem Inv.wish(I:Inv X pins σ H s)(E:BA->BB->Prop):Inv (X.wish E) pins σ H s:=⟨I.ok.wish E,I.os,I.bare,I.base,I.loc,I.cell,I.free,I.freeC,I.pin,I.hok,I.len⟩
theorem Inv.unwish(I:Inv (X.wish E) pins σ H s):Inv X pins σ H s:=⟨I.ok.unwish,I.os,I.bare,I.base,I.loc,I.cell,I.free,I.freeC,I.pin,I.hok,I.len⟩
theorem SP.unwish{D:sJ}{f:Flow}{s':BB}(h:SP (X.wish E) pins D f s'):SP X pins D f s':=by
 cases f with
 |next=>obtain⟨σ',H',I,q⟩:=h;exact⟨σ',H',I.unwish,q⟩
 |brk=>obtain⟨σ',H',I,q⟩:=h;exact⟨σ',H',I.unwish,q⟩
 |cont=>obtain⟨σ',H',I,q⟩:=h;exact⟨σ',H',I.unwish,q⟩
 |ret u=>obtain⟨v,σ',H',I,r,q⟩:=h;exact⟨v,σ',H',I.unwish,r,q⟩
theorem PSs.nox{st:List BG}{t:TS}(h:PSs X.nox st t):PSs X st t:=λpins s σ H D I hw=>AY (h pins s σ H D (I.wish _) hw) (λ_ _ q=>q.unwish) λ_ _ z=>False.elim z
variable {st:BG}{rest:List BG}{t u:TS}{e:Expr}{te:TE}
noncomputable def aNw:TS:=λD σ H=>D.nx σ H
noncomputable def tSeq(t u:TS):TS:=λD σ H=>t {D with nx:=u D} σ H
theorem pss_nil:PSs X [] aNw:=λ_ _ σ H _ I h=>wpAny_execs_nil ⟨σ,H,I,h⟩
theorem aFz(h1:PS X st t)(h2:PSs X rest u):PSs X (st::rest) (tSeq t u):=by
 intro pins s σ H D I h;refine wpAny_execs_cons<|thn (h1 pins s σ H {D with nx:=u D} I h) λf s1 q=> ?_;cases f with
 |next=>obtain⟨σ',H',I',q⟩:=q;exact h2 pins s1 σ' H' D I' q
 |ret v=>exact q
 |brk=>exact q
 |cont=>exact q
theorem aIY(h1:PS X st t):PSs X [st] t:=by
 intro pins s σ H D I h;refine wpAny_execs_cons<|thn (h1 pins s σ H D I h) λf s1 q=> ?_;cases f with
 |next=>exact wpAny_execs_nil q
 |ret v=>exact q
 |brk=>exact q
 |cont=>exact q
theorem Inv.quiet(I:Inv X pins σ H s):interactive X.env=false:=by simp[interactive,I.ok.kind]
noncomputable def aNz(te:TE):TS:=λD σ H=>te σ H λ_ H1=>D.nx σ H1
theorem qY(he:PE X e te)(hs:Ad e none pos.line X.env=pure false:=by rfl):PS X (.Expr e pos) (aNz te):=by intro pins s σ H D I h;exact wpAny_Expr_any (thn (he pins s σ H _ I h) λv s1 ⟨x,H1,I1,r1,q1⟩=>⟨σ,H1,I1,q1⟩) I.quiet hs
noncomputable def tRet(te:TE):TS:=λD σ H=>te σ H D.rt
theorem xY(he:PE X e te):PS X (.Return (some e) pos) (tRet te):=by intro pins s σ H D I h;exact wpAny_Return_some<|thn (he pins s σ H _ I h) λv s1 ⟨x,H1,I1,r1,q1⟩=>⟨x,σ,H1,I1,r1,q1⟩
noncomputable def tIfS(c:TT)(t u:TS):TS:=λD σ H=>c σ H λb H1=>if b=true then t D σ H1 else u D σ H1
theorem aNK{c:Expr}{a b:List BG}{tc:TT}(hc:PT X c tc)(ha:PSs X a t)(hb:PSs X b u):PS X (.If c a b pos) (tIfS tc t u):=by
 intro pins s σ H D I h;refine wpAny_If<|thn (hc pins s σ H _ I h) λd s1 ⟨H1,I1,q1⟩=> ?_;cases d with
 |true=>exact ha pins s1 σ H1 D I1 q1
 |false=>exact hb pins s1 σ H1 D I1 q1
noncomputable abbrev TG:=V->St->Hp->(St->Hp->Prop)->Prop
noncomputable abbrev TGs:=List V->St->Hp->(St->Hp->Prop)->Prop
def PG(X:Cx)(target:Expr)(t:TG):Prop:=
 ∀ (pins:List (BC×BF)) (s:BB) (σ:St) (H:Hp) (v:V) (u:BA) (Q:St->Hp->Prop),Inv X pins σ H s->RelV v u->t v σ H Q->
  AE (AF X.prog X.w) X.A (assign target X.env u) (λ_ s'=>∃σ' H',Inv X pins σ' H' s'/\Q σ' H') X.xe s
def PGs(X:Cx)(ts:List Expr)(t:TGs):Prop:=
 ∀ (pins:List (BC×BF)) (s:BB) (σ:St) (H:Hp) (vs:List V) (us:List BA) (Q:St->Hp->Prop),Inv X pins σ H s->Vals vs us->t vs σ H Q->
  AE (AF X.prog X.w) X.A (assignInOrder ((AV ts X.env).map (·.2)) us) (λ_ s'=>∃σ' H',Inv X pins σ' H' s'/\Q σ' H') X.xe s
noncomputable abbrev aMS:=V->V->V->Hp->(Hp->Prop)->Prop
def aOA(X:Cx)(t:aMS):Prop:=
 ∀ (pins:List (BC×BF)) (s:BB) (σ:St) (H:Hp) (o i v:V) (ov iv u:BA) (Q:Hp->Prop),Inv X pins σ H s->RelV o ov->RelV i iv->RelV v u->t o i v H Q->
  AE (AF X.prog X.w) X.A (setItem ov iv u) (λ_ s'=>∃H',Inv X pins σ H' s'/\Q H') X.xe s
noncomputable abbrev TIp:=V->V->Hp->VK->Prop
noncomputable def aBH(i:Nat):TG:=λv σ H Q=>Q (σ.set i (some v)) H
theorem aDf{i:Nat}{x:Str}(hN:X.N.Nodup)(hi:X.N[i]? =some x)(hx:Loc X.env.scope x)(hf:X.fn x=true\/X.env.scope.names.lookup x=some .local:=by first|exact .inl rfl|exact .inr rfl|assumption):PG X (.Name x pos) (aBH i):=by intro pins s σ H v u Q I r h;exact wpAny_assign_Name<|pO I hN hi hx r (λs' I'=>⟨_,H,I',h⟩) hf
noncomputable def aOB:TGs:=λvs σ H Q=>vs=[]/\Q σ H
noncomputable def aJY(t:TG)(u:TGs):TGs:=λvs σ H Q=>∃v r,vs=v::r/\t v σ H λσ' H'=>u r σ' H' Q
theorem kE:PGs X [] aOB:=by intro pins s σ H vs us Q I r h;obtain⟨e,h⟩:=h;subst e;cases r;exact assignInOrder_nil ⟨σ,H,I,h⟩
theorem dO{es:List Expr}{t:TG}{u:TGs}(h1:PG X e t)(h2:PGs X es u)
  (hs:(AV (e::es) X.env).map (·.2)=assign e X.env::(AV es X.env).map (·.2):=by rfl):PGs X (e::es) (aJY t u):=by
 intro pins s σ H vs us Q I r h;obtain⟨v,vr,e1,h⟩:=h;subst e1;cases r with
 |cons r rr=>rw[hs];refine assignInOrder_cons<|thn (h1 pins s σ H _ _ _ I r h) λ_ s1 ⟨σ1,H1,I1,q1⟩=> ?_;exact h2 pins s1 σ1 H1 _ _ Q I1 rr q1
noncomputable def gTup(K:aA)(n:Nat)(t:TGs):TG:=λv σ H Q=>∃a xs,v=.ref a/\SqT K H a xs/\xs.length=n/\t xs σ H Q
theorem aKs{es:List Expr}{k:Nat}{t:TGs}{n:Nat}(hc:X.calm=true)(h:PGs X es t)
  (hn:(AV es X.env).length=n:=by rfl) (hst:(AV es X.env).findIdx? (·.1)=none:=by rfl):PG X (.Tuple es k pos) (gTup X.K n t):=by
 intro pins s σ H v u Q I r hw;obtain⟨a,xs,e1,hq,hl,hw⟩:=hw;subst e1;cases r;obtain⟨its,rv,ht,hz⟩:=I.tuple hq;refine assign_Tuple_tuple (I.ok.hd hc) ht (by simp[hn,<-hl,rv.length]) hst λh' hx=> ?_
 have I1:Inv X pins σ H {s with heap:=h'}:=I.kept (t':=s.toks) λb o e=>hx b o (bG<|aK e) e
 exact h pins _ σ H xs _ Q I1 (by simpa using rv) hw
noncomputable def gSub(to ti:TE)(t:aMS):TG:=λv σ H Q=>to σ H λo H1=>ti σ H1 λi H2=>t o i v H2 λH3=>Q σ H3
theorem aLh{o i:Expr}{to ti:TE}{t:aMS}(ho:PE X o to)(hi:PE X i ti)(hs:aOA X t)
  (ha:∀v,assign (.Subscript o i pos) X.env v=(do
   let ov <-holding [v] (eval o X.env)
   let iv <-holding [v,ov] (eval i X.env)
   standAt pos
   holding [v,ov,iv] (setItem ov iv v)
   release [v,ov,iv] []):=by intro _;rfl):PG X (.Subscript o i pos) (gSub to ti t):=by
 intro pins s σ H v u Q I r h;rw[ha];refine AA (AO<|thn (ho pins s σ H _ I h) λov s1 ⟨x,H1,I1,r1,q1⟩=> ?_);refine AA (AO<|thn (hi pins s1 σ H1 _ I1 q1) λiv s2 ⟨y,H2,I2,r2,q2⟩=> ?_);refine AA (As<|AA (AO<|thn (hs pins s2 σ H2 x y v ov iv u _ I2 r1 r2 r q2) λ_ s3 ⟨H3,I3,q3⟩=> ?_));exact wpAny_release ⟨σ,H3,I3,q3⟩
noncomputable def aOp(te:TE)(g:TG):TS:=λD σ H=>te σ H λx H1=>g x σ H1 D.nx
theorem aHd{tg:Expr}{g:TG}(he:PE X e te)(hg:PG X tg g)(hs:swapsWithSole [tg] e pos.line X.env=pure false:=by rfl)(hw:swappedStores [tg] e X.env=pure none:=by rfl)
  (h1:(AV [tg] X.env).map (·.2)=[assign tg X.env]:=by rfl):PS X (.Assign [tg] e pos) (aOp te g):=by
 intro pins s σ H D I h;refine wpAny_Assign_stores (thn (he pins s σ H _ I h) λv s1 ⟨x,H1,I1,r1,q1⟩=> ?_) hs hw;rw[h1];exact thn (hg pins s1 σ H1 x v _ I1 r1 q1) λ_ s2 q=>q
theorem aHl{i:Nat}{x:Str}{pos':Pos}(hN:X.N.Nodup)(hi:X.N[i]? =some x)(hx:Loc X.env.scope x)(he:PE X e te)(hs:Ad e (some<|.Name x pos') pos.line X.env=pure false:=by rfl)(hf:X.fn x=true\/X.env.scope.names.lookup x=some .local:=by first|exact .inl rfl|exact .inr rfl|assumption):
  PS X (.Assign [.Name x pos'] e pos) (aOp te<|aBH i):=by
 intro pins s σ H D I h;refine wpAny_Assign_Name (thn (he pins s σ H _ I h) λv s1 ⟨y,H1,I1,r1,q1⟩=> ?_) hs;exact pO I1 hN hi hx r1 (λs2 I2=>⟨_,H1,I2,q1⟩) hf
structure It where
 go:Nat->Hp->Prop
 yld:Nat->Hp->V->Hp->Prop
 stop:Nat->Hp->Prop
def vQ(X:Cx)(pins:List (BC×BF))(H:Hp)(b:BC):Prop:=
 H b=none/\b≠X.env.locals/\b∉X.fs/\(b∈X.ex\/X.s₀.heap.objs.size<=b)/\(∀x c,X.env.cells.lookup x=some c->c≠b)/\∀p∈X.pn++pins,p.1≠b
theorem Inv.fpOk{b:BC}(I:Inv X pins σ H s)(hb:s.heap.objs.size<=b)(hn:H' b=none):vQ X pins H' b:=by
 refine⟨hn,eX<|aX I.lt hb,I.nofs hb,.inr<|aQ I.sz hb,λx c e z=> ?_,λp hp z=> ?_⟩
 ·obtain⟨v,q⟩:=I.cell x c e;exact absurd (aX q.lt<|by rw[z];exact hb)<|eZ _
 ·exact absurd (aX (aK (I.pin p hp).1)<|by rw[z];exact hb)<|eZ _
structure aGn(P:AD)(w:AG)(K:aA)(tg:Expr)(J:It)(fp:List BC)(it:BC)(tn:Nat->BE->Prop):Prop where
 mem:it∈fp
 obj:∀i h,tn i h->∀b∈fp,∃o,h.get? b=some o/\∀v,o.data≠ .cell v
 keep:∀i h h',tn i h->(∀b∈fp,∀o,h.get? b=some o->h'.get? b=some o)->tn i h'
 item:∀ (X:Cx),X.prog=P->X.w=w->X.K=K->X.calm=true->∀ (i:Nat) (pins:List (BC×BF)) (s:BB) (σ:St) (H:Hp) (E:BA->BB->Prop),Inv X pins σ H s->(∀b∈fp,vQ X pins H b)->tn i s.heap->J.go i H->
  AE (AF P w) X.A (pyNext (.ref it)) (fun r s1=>∃u,r=some u∧
   AE (AF P w) X.A (letOwnedTupleGo tg (.ref it) u) (λ_ s2=>∃x H',Inv X pins σ H' s2/\RelV x u/\J.yld i H x H'/\tn (i+1) s2.heap/\∀b∈fp,H' b=none) E s1) E s
 done:∀ (X:Cx),X.prog=P->X.w=w->X.K=K->X.calm=true->∀ (i:Nat) (pins:List (BC×BF)) (s:BB) (σ:St) (H:Hp) (E:BA->BB->Prop),Inv X pins σ H s->(∀b∈fp,vQ X pins H b)->tn i s.heap->J.stop i H->
  AE (AF P w) X.A (pyNext<|.ref it) (λr s1=>r=none/\Inv X pins σ H s1) E s
 self:∀ (A:BD) (i:Nat) (s:BB) (Q:BA->BB->Prop) (E:BA->BB->Prop),tn i s.heap->Q (.ref it) s->AE (AF P w) A (pyIter<|.ref it) Q E s
noncomputable abbrev TI:=St->Hp->(It->Hp->Prop)->Prop
def PIE(X:Cx)(pins:List (BC×BF))(σ:St)(tg:Expr)(R:It->Hp->Prop)(itv:BA)(s2:BB):Prop:=
 ∃ (it:BC) (fp:List BC) (tn:Nat->BE->Prop) (J:It) (H':Hp),itv=.ref it/\Inv X pins σ H' s2/\aGn X.prog X.w X.K tg J fp it tn/\tn 0 s2.heap/\(∀b∈fp,vQ X pins H' b)/\R J H'
def PI(X:Cx)(tg iter:Expr)(wi:TI):Prop:=
 ∀ (pins:List (BC×BF)) (s:BB) (σ:St) (H:Hp) (R:It->Hp->Prop),Inv X pins σ H s->wi σ H R->
  AE (AF X.prog X.w) X.A (eval iter X.env) (λv s1=>AE (AF X.prog X.w) X.A (pyIter v) (PIE X pins σ tg R) X.xe s1) X.xe s
theorem aEU{M:Model}{A:BD}{tg:Expr}{it:BC}{u:BA}{o:BF}{n:String}{vs:Array BA}{Q:Unit->BB->Prop}(ho:s.heap.get? it=some o)(hc:o.cls=.type n)(hd:o.data=.fields vs)
  (hn:["enumerate","zip","dict_itemiterator","dict_reverseitemiterator","odict_iterator","itertools.zip_longest","itertools.pairwise"].contains n=false) (hQ:Q () s):AE M A (letOwnedTupleGo tg (.ref it) u) Q E s:=by
 unfold letOwnedTupleGo
 cases tg<;>first
  |exact AC hQ
  | (cases u<;>first
    |exact AC hQ
    | (refine AA (wpAny_load ho ?_)
       rw[hc,hd];show AE M A (if(["enumerate","zip","dict_itemiterator","dict_reverseitemiterator","odict_iterator","itertools.zip_longest","itertools.pairwise"].contains n&&vs[0]? ==some (rawInt _))=true then _ else _) Q E s;rw[if_neg<|by intro h;rw[hn,oJ] at h;cases h]
       exact AC hQ))
noncomputable def Itl(K:aA)(a:BC):It:=
 ⟨λi H=>∃xs x,SqL K H a xs/\xs[i]? =some x,λi H x H'=>H'=H/\∀xs,SqL K H a xs->xs[i]? =some x,λi H=>∃xs,SqL K H a xs/\xs.length<=i⟩
noncomputable def Itt(K:aA)(a:BC):It:=
 ⟨λi H=>∃xs x,SqT K H a xs/\xs[i]? =some x,λi H x H'=>H'=H/\∀xs,SqT K H a xs->xs[i]? =some x,λi H=>∃xs,SqT K H a xs/\xs.length<=i⟩
noncomputable def Itr(lo:Int)(n:Nat):It:=⟨λi _=>i<n,λi H x H'=>H'=H/\x=.int (lo+i),λi _=>n<=i⟩
theorem aEb{K:aA}{tg:Expr}(a it:BC):aGn P w K tg (Itl K a) [it] it (λi h=>h.IsListIter it a i) where
 mem:=by simp
 obj:=λi h st b hb=>by
  have e:b=it:=by simpa using hb
  subst e;obtain⟨o,e,c,d⟩:=st;exact⟨o,e,λv z=>by rw[d] at z;cases z⟩
 keep:=λi h h' st k=>st.at λo e=>k it (by simp) o e
 item:=by
  intro X hP hw hK hc i pins s σ H E I hf st hg;subst hP hw hK;obtain⟨xs,x,hq,hx⟩:=hg;obtain⟨its,rv,p,hz⟩:=I.list hq;obtain⟨u,hu,ru⟩:=rv.get hx;obtain⟨f0,f1,f2,f3,f4,f5⟩:=hf it (by simp);refine wpAny_pyNext_list_item st p.isList (x:=u) (by simpa using hu) λh' st' sb=> ?_
  have I1:Inv X pins σ H {s with heap:=h'}:=I.turned (t':=s.toks) (λb o hb e=>(sb.2 b hb).trans e) f0 f1 f3 f4 f5;obtain⟨o,e,c,d⟩:=id st';exact⟨u,rfl,aEU (s:={s with heap:=h'}) e c d (by decide) ⟨x,H,I1,ru,⟨rfl,λys hy=>by rw[I.list_inj hy hq];exact hx⟩,st',λb hb=>(hf b hb).1⟩⟩
 done:=by intro X hP hw hK hc i pins s σ H E I hf st hg;subst hP hw hK;obtain⟨xs,hq,hx⟩:=hg;obtain⟨its,rv,p,hz⟩:=I.list hq;obtain⟨f0,f1,f2,f3,f4,f5⟩:=hf it (by simp);have hl:=rv.length;exact wpAny_pyNext_list_end (I.ok.hd hc) st p.isList (by simp;omega) λh' eb=>⟨rfl,I.turned (t':=s.toks) (λb o hb e=>eb b o hb e) f0 f1 f3 f4 f5⟩
 self:=λ_ _ _ _ _ st h=>wpAny_pyIter_listiter st h
theorem aBo{K:aA}{tg:Expr}(a it:BC):aGn P w K tg (Itt K a) [it] it (λi h=>h.IsTupleIter it a i) where
 mem:=by simp
 obj:=λi h st b hb=>by
  have e:b=it:=by simpa using hb
  subst e;obtain⟨o,e,c,d⟩:=st;exact⟨o,e,λv z=>by rw[d] at z;cases z⟩
 keep:=λi h h' st k=>st.at λo e=>k it (by simp) o e
 item:=by
  intro X hP hw hK hc i pins s σ H E I hf st hg;subst hP hw hK;obtain⟨xs,x,hq,hx⟩:=hg;obtain⟨its,rv,p,hz⟩:=I.tuple hq;obtain⟨u,hu,ru⟩:=rv.get hx;obtain⟨f0,f1,f2,f3,f4,f5⟩:=hf it (by simp);refine wpAny_pyNext_tuple_item st (show s.heap.IsTuple a its.toArray from p) (x:=u) (by simpa using hu) λh' st' sb=> ?_
  have I1:Inv X pins σ H {s with heap:=h'}:=I.turned (t':=s.toks) (λb o hb e=>(sb.2 b hb).trans e) f0 f1 f3 f4 f5;obtain⟨o,e,c,d⟩:=id st';exact⟨u,rfl,aEU (s:={s with heap:=h'}) e c d (by decide) ⟨x,H,I1,ru,⟨rfl,λys hy=>by rw[I.tuple_inj hy hq];exact hx⟩,st',λb hb=>(hf b hb).1⟩⟩
 done:=by intro X hP hw hK hc i pins s σ H E I hf st hg;subst hP hw hK;obtain⟨xs,hq,hx⟩:=hg;obtain⟨its,rv,p,hz⟩:=I.tuple hq;obtain⟨f0,f1,f2,f3,f4,f5⟩:=hf it (by simp);have hl:=rv.length;exact wpAny_pyNext_tuple_end (I.ok.hd hc) st (show s.heap.IsTuple a its.toArray from p) (by simp;omega) λh' eb=>⟨rfl,I.turned (t':=s.toks) (λb o hb e=>eb b o hb e) f0 f1 f3 f4 f5⟩
 self:=λ_ _ _ _ _ st h=>wpAny_pyIter_tupleiter st h
theorem aBy{K:aA}{tg:Expr}(it:BC)(lo:Int)(n:Nat):aGn P w K tg (Itr lo n) [it] it (λi h=>IsRangeIter h it (lo+(i:Nat)*1) ((n:Int)-(i:Nat)) 1) where
 mem:=by simp
 obj:=λi h st b hb=>by
  have e:b=it:=by simpa using hb
  subst e
  exact ⟨_,st,fun v z=>by
   have z':Data.fields _=Data.cell v:=z
   cases z'⟩
 keep:=λi h h' st k=>k it (by simp) _ st
 item:=by
  intro X hP hw hK hc i pins s σ H E I hf st hg;subst hP hw hK;obtain⟨f0,f1,f2,f3,f4,f5⟩:=hf it (by simp);have W:=Walks.range (prog:=X.prog) (w:=X.w) (I.ok.hd hc) it lo 1 n;refine W.item i s _ _ hg st λv h' tk hv st' kk=> ?_
  obtain⟨t,rfl⟩:=hv;have I1:Inv X pins σ H {s with heap:=h',toks:=tk}:=I.turned (λb o hb e=>kk b o (by simpa using hb) e) f0 f1 f3 f4 f5;refine⟨_,rfl,aEU (s:={s with heap:=h',toks:=tk}) (n:="range_iterator") st' rfl rfl (by decide) ⟨.int<|lo+i,H,I1,⟨t, ?_⟩,⟨rfl,rfl⟩,st',λb hb=>(hf b hb).1⟩⟩;rw[Int.mul_one]
 done:=by intro X hP hw hK hc i pins s σ H E I hf st hg;subst hP hw hK;obtain⟨f0,f1,f2,f3,f4,f5⟩:=hf it (by simp);exact wpAny_pyNext_range_end (I.ok.hd hc) st (by have:n<=i:=hg;omega) λh' eb=>⟨rfl,I.turned (t':=s.toks) (λb o hb e=>eb b o hb e) f0 f1 f3 f4 f5⟩
 self:=λ_ _ _ _ _ st h=>wpAny_pyIter_rangeiter st h
variable {tg:Expr}
noncomputable def aNE(K:aA)(tl:TE):TI:=λσ H R=>tl σ H λx H1=>∃a,x=.ref a/\(∃xs,SqL K H1 a xs)/\R (Itl K a) H1
noncomputable def iTup(K:aA)(tl:TE):TI:=λσ H R=>tl σ H λx H1=>∃a,x=.ref a/\(∃xs,SqT K H1 a xs)/\R (Itt K a) H1
theorem aIj{l:Expr}{tl:TE}(hl:PE X l tl):PI X tg l (aNE X.K tl):=by
 intro pins s σ H R I h;refine thn (hl pins s σ H _ I h) λv s1 ⟨x,H1,I1,r1,q1⟩=> ?_
 obtain⟨a,e,⟨xs,hq⟩,q⟩:=q1;subst e;cases r1;obtain⟨its,rv,p,hz⟩:=I1.list hq;refine Ap p.isList ?_;refine⟨s1.heap.objs.size,[s1.heap.objs.size],_,_,H1,rfl,I1.kept (t':=s1.toks) λb o e=>aC _ e,aEb a _,⟨_,aY _ rfl,rfl,rfl⟩,λb hb=> ?_,q⟩;have e:b=s1.heap.objs.size:=by simpa using hb
 subst e;exact I1.fpOk (aO _) (I1.hok.fresh<|aO _)
theorem aKZ{l:Expr}{tl:TE}(hl:PE X l tl):PI X tg l (iTup X.K tl):=by
 intro pins s σ H R I h;refine thn (hl pins s σ H _ I h) λv s1 ⟨x,H1,I1,r1,q1⟩=> ?_
 obtain⟨a,e,⟨xs,hq⟩,q⟩:=q1;subst e;cases r1;obtain⟨its,rv,p,hz⟩:=I1.tuple hq;refine wpAny_pyIter_tuple (show s1.heap.IsTuple a its.toArray from p) ?_;refine⟨s1.heap.objs.size,[s1.heap.objs.size],_,_,H1,rfl,I1.kept (t':=s1.toks) λb o e=>aC _ e,aBo a _,⟨_,aY _ rfl,rfl,rfl⟩,λb hb=> ?_,q⟩;have e:b=s1.heap.objs.size:=by simpa using hb
 subst e;exact I1.fpOk (aO _) (I1.hok.fresh<|aO _)
theorem aAn{R:It->Hp->Prop}{lo hi:Int}{t u v:Tok}{tk:Nat}(I:Inv X pins σ H s)(h1: -(2^62)<=lo)(h2:lo<2^62)(h3: -(2^62)<=hi)(h4:hi<2^62)
  (q:R (Itr lo (hi-lo).toNat) H):AE (AF X.prog X.w) X.A (pyIter<|.ref s.heap.objs.size) (PIE X pins σ tg R) E {s with heap:=s.heap.push {cls:=.type "range",data:=.fields #[.int lo t,.int hi u,.int 1 v]},toks:=tk}:=by
 refine wpAny_pyIter_range (IsRange.new ..) (small_one h1 h2 h3 h4) ?_;have I1:Inv X pins σ H {s with heap:=s.heap.push {cls:=.type "range",data:=.fields #[.int lo t,.int hi u,.int 1 v]},toks:=tk}:=I.kept λb o e=>aC _ e
 refine ⟨(s.heap.push {cls:= .type "range",data:= .fields #[.int lo t, .int hi u, .int 1 v]}).objs.size,[(s.heap.push {cls:= .type "range",data:= .fields #[.int lo t, .int hi u, .int 1 v]}).objs.size],_,_,H,rfl,
  I1.kept (t':=tk) λb o e=>aC _ e,aBy _ lo (hi-lo).toNat, ?_,λb hb=> ?_,q⟩
 ·have e1:lo+((0:Nat):Int)*1=lo:=by simp
  have e2:(((hi-lo).toNat:Nat):Int)-((0:Nat):Int)=Builtin.Range.rangeSize lo hi 1:=by rw[rangeSize_one];split<;>omega
  show IsRangeIter _ _ (lo+((0:Nat):Int)*1) ((((hi-lo).toNat:Nat):Int)-((0:Nat):Int)) 1;rw[e1,e2];exact aY _ rfl
 ·have e:b=(s.heap.push {cls:=.type "range",data:=.fields #[.int lo t,.int hi u,.int 1 v]}).objs.size:=by simpa using hb
  subst e;exact I1.fpOk (aO _) (I1.hok.fresh<|aO _)
noncomputable def aNQ(ta:TA):TI:=λσ H R=>ta σ H λvs H1=>∃j:Int,vs=[.int j]/\ -(2^62)<=j/\j<2^62/\R (Itr 0 j.toNat) H1
noncomputable def aNv(ta:TA):TI:=λσ H R=>ta σ H λvs H1=>∃i j:Int,vs=[.int i,.int j]/\(-(2^62)<=i/\i<2^62/\ -(2^62)<=j/\j<2^62)/\R (Itr i (j-i).toNat) H1
theorem aDN{a:Expr}{ta:TA}{p:Pos}(hg:Gl X "range")(hm:X.mg "range"=none)(ha:PA X [a] ta)(hs:AB [a] X.env=[(false,eval a X.env)]:=by rfl):PI X tg (.Call (.Name "range" p) [a] [] pos) (aNQ ta):=by
 intro pins s σ H R I h;refine Call_ (nE I hg hm boot_range<|PyProof.Rows.callWith_type1 (thn (ha pos pins s σ H _ I h) λus s1 ⟨vs,H1,I1,r1,q1⟩=> ?_) hs rfl);obtain⟨j,e,q1,q2,q⟩:=q1;subst e;cases r1 with
 |cons r rr=>cases rr;obtain⟨t,rfl⟩:=r;exact call_range_1 (aAn I1 (by omega) (by omega) q1 q2<|by simpa using q)
theorem aEr{a:Expr}{ta:TA}{p:Pos}(hg:Gl X "range")(hm:X.mg "range"=none)(ha:PA X [a,b] ta)(hs:AB [a,b] X.env=[(false,eval a X.env),(false,eval b X.env)]:=by rfl)(hs2:AB [b] X.env=[(false,eval b X.env)]:=by rfl):
  PI X tg (.Call (.Name "range" p) [a,b] [] pos) (aNv ta):=by
 intro pins s σ H R I h;refine Call_<|nE I hg hm boot_range (PyProof.Rows.callWith_type1 (thn (ha pos pins s σ H _ I h) λus s1 ⟨vs,H1,I1,r1,q1⟩=> ?_) (by rw[hs,hs2])<|by rw[hs2];rfl);obtain⟨i,j,e,⟨q1,q2,q3,q4⟩,q⟩:=q1;subst e;cases r1 with
 |cons r rr=>
  cases rr with
  |cons r' rr=>cases rr;obtain⟨t,rfl⟩:=r;obtain⟨t',rfl⟩:=r';exact call_range_2<|aAn I1 q1 q2 q3 q4 q
noncomputable def tFor(wi:TI)(g:TG)(tb:TS):TS:=λD σ H=>wi σ H λJ H1=>∃W:Nat->Nat->St->Hp->Prop,(∃m,W 0 m σ H1)/\∀i m σ H,W i m σ H->
 (J.stop i H/\D.nx σ H)\/(J.go i H/\∃N:St->Hp->Prop,(∀σ' H',N σ' H'->∃m',m'<m/\W (i+1) m' σ' H')/\∀x H',J.yld i H x H'->g x σ H' λσ2 H2=>tb {D with nx:=N,ct:=N,bk:=D.nx} σ2 H2)
noncomputable def lX(fp:List BC)(h:BE):List (BC×BF):=fp.filterMap λb=>(h.get? b).map λo=>(b,o)
theorem gW{fp:List BC}{b:BC}{o:BF}(hb:b∈fp)(e:h.get? b=some o):(b,o)∈lX fp h:=kF.mpr ⟨b,hb,by rw[e];rfl⟩
theorem rV{fp:List BC}{p:BC×BF}(hp:p∈lX fp h):p.1∈fp/\h.get? p.1=some p.2:=by
 obtain⟨b,hb,e⟩:=kF.mp hp;cases q:h.get? b with
 |none=>rw[q] at e;cases e
 |some o=>rw[q] at e;have e':(b,o)=p:=cC.inj e;subst e';exact⟨hb,q⟩
theorem Inv.pinned{fp:List BC}(I:Inv X pins σ H s)(hf:∀b∈fp,vQ X pins H b)(ho:∀b∈fp,∃o,s.heap.get? b=some o/\∀v,o.data≠ .cell v):Inv X (pins++lX fp s.heap) σ H s:=
 I.pins_of λp hp=>(aW.mp hp).elim (λz=>I.pin p<|aJ _ z) λz=>by obtain⟨hb,e⟩:=rV z;obtain⟨f0,f1,f2,_⟩:=hf p.1 hb;obtain⟨o,e',d⟩:=ho p.1 hb;rw[e] at e';cases e';exact⟨e,f0,f1,f2,d⟩
theorem Inv.unpinned{pl:List (BC×BF)}(I:Inv X (pins++pl) σ H s):Inv X pins σ H s:=I.pins_of λp hp=>I.pin p (aJ _<|bH _ hp)
theorem aGO{iter:Expr}{body:List BG}{wi:TI}{g:TG}{tb:TS}(hp:PassesOwn (AF X.prog X.w) X.A X.env X.xe)(hc:X.calm=true)(hi:PI X tg iter wi)(hg:PG X tg g)(hb:PSs X body tb)
  (hs:∀x,Ae iter X.env x=pure x:=by intro _;rfl):PS X (.For tg iter body [] pos) (tFor wi g tb):=by
 intro pins s σ H D I h;refine wpAny_For (thn (hi pins s σ H _ I h) λv s1 h1=>thn h1 λitv s2 h2=> ?_) hs;obtain⟨it,fp,tn,J,H2,e,I2,T,st2,f2,W,⟨m0,w0⟩,turn⟩:=h2;subst e
 have stat:∀ {H':Hp},(∀b∈fp,H' b=none)->∀b∈fp,vQ X pins H' b:=λhn b hb=>⟨hn b hb,(f2 b hb).2⟩
 refine codeAny_forLoop_any (λn s'=>∃i σ' H',Inv X pins σ' H' s'/\tn i s'.heap/\(∀b∈fp,H' b=none)/\W i n σ' H') ?_ m0 ⟨0,σ,H2,I2,st2,λb hb=>(f2 b hb).1,w0⟩;rintro n s3 ⟨i,σ3,H3,I3,st3,fr3,w3⟩
 rcases turn i n σ3 H3 w3 with⟨stop,qn⟩|⟨go,N,hN,step⟩
 ·refine Au hp<|thn (T.done X rfl rfl rfl hc i pins s3 σ3 H3 X.xe I3 (stat fr3) st3 stop) λr s4 ⟨hr,I4⟩=> ?_;subst hr;exact wpAny_execs_nil ⟨σ3,H3,I4,qn⟩
 ·refine Au hp<|thn (T.item X rfl rfl rfl hc i pins s3 σ3 H3 X.xe I3 (stat fr3) st3 go) λr s4 ⟨u,hr,h4⟩=> ?_;subst hr;refine Au hp<|thn h4 λ_ s5 ⟨x,H5,I5,r5,y5,st5,fr5⟩=> ?_;have I5':=I5.pinned (stat fr5)<|T.obj _ _ st5;refine Au hp<|thn (hg _ s5 σ3 H5 x u _ I5' r5<|step x H5 y5) λ_ s6 ⟨σ6,H6,I6,q6⟩=> ?_;refine Au hp (thn (hb _ s6 σ6 H6 _ I6 q6) λf s7 q7=> ?_)
  have again:∀ {σ7:St}{H7:Hp},Inv X (pins++lX fp s5.heap) σ7 H7 s7->N σ7 H7->∃m,m<n/\∃i σ' H',Inv X pins σ' H' s7/\tn i s7.heap/\(∀b∈fp,H' b=none)/\W i m σ' H':=λ{σ7 H7} I7 n7=>by obtain⟨m',hm,w7⟩:=hN σ7 H7 n7;refine⟨m',hm,i+1,σ7,H7,I7.unpinned,T.keep _ _ _ st5 λb hb o e=>(I7.pin (b,o)<|aJ _ (aJ _<|gW hb e)).1,λb hb=> ?_,w7⟩;obtain⟨o,e,d⟩:=T.obj _ _ st5 b hb;exact(I7.pin (b,o)<|aJ _ (aJ _<|gW hb e)).2.1
  cases f with
  |next=>obtain⟨σ7,H7,I7,n7⟩:=q7;exact again I7 n7
  |cont=>obtain⟨σ7,H7,I7,n7⟩:=q7;exact again I7 n7
  |brk=>obtain⟨σ7,H7,I7,q7⟩:=q7;exact⟨σ7,H7,I7.unpinned,q7⟩
  |ret v=>obtain⟨x7,σ7,H7,I7,r7,q7⟩:=q7;exact⟨x7,σ7,H7,I7.unpinned,r7,q7⟩
noncomputable abbrev R2:=V->V->Hp->VK->Prop
def OpR(X:Cx)(f:BA->BA->Sem BA)(r:R2):Prop:=
 ∀ (pins:List (BC×BF)) (s:BB) (σ:St) (H:Hp) (x y:V) (v u:BA) (Q:VK),Inv X pins σ H s->RelV x v->RelV y u->r x y H Q->
  AE (AF X.prog X.w) X.A (f v u) (EP X pins σ Q) X.xe s
def UnR(X:Cx)(f:BA->Sem BA)(r:V->Hp->VK->Prop):Prop:=
 ∀ (pins:List (BC×BF)) (s:BB) (σ:St) (H:Hp) (x:V) (v:BA) (Q:VK),Inv X pins σ H s->RelV x v->r x H Q->
  AE (AF X.prog X.w) X.A (f v) (EP X pins σ Q) X.xe s
def jK(X:Cx)(f:BA)(r:List V->Hp->VK->Prop):Prop:=
 ∀ (pins:List (BC×BF)) (s:BB) (σ:St) (H:Hp) (xs:List V) (us:List BA) (Q:VK),Inv X pins σ H s->Vals xs us->r xs H Q->
  AE (AF X.prog X.w) X.A (call f us) (EP X pins σ Q) X.xe s
noncomputable def tOp(r:R2)(ta tb:TE):TE:=λσ H Q=>ta σ H λx H1=>tb σ H1 λy H2=>r x y H2 Q
noncomputable def tUn(r:V->Hp->VK->Prop)(ta:TE):TE:=λσ H Q=>ta σ H λx H1=>r x H1 Q
noncomputable def rI(C:Int->Int->Prop)(g:Int->Int->V):R2:=λx y H Q=>∃i j,x=.int i/\y=.int j/\C i j/\Q (g i j) H
noncomputable def rI0(g:Int->Int->V):R2:=λx y H Q=>∃i j,x=.int i/\y=.int j/\Q (g i j) H
def rU(g:Int->V):V->Hp->VK->Prop:=λx H Q=>∃i,x=.int i/\Q (g i) H
variable {a c:Expr}{tc:TE}
theorem aMJ(ha:PE X a ta)(hb:PE X b tb){R:V->V->Hp->Prop}(I:Inv X pins σ H s)
  (h:ta σ H λx H1=>tb σ H1 λy H2=>R x y H2) {Q:BA->BB->Prop}{f:BA->BA->Sem BA}
  (hf:∀v u s2 x y H2,Inv X pins σ H2 s2->RelV x v->RelV y u->R x y H2->AE (AF X.prog X.w) X.A (f v u) Q X.xe s2):
  AE (AF X.prog X.w) X.A (eval a X.env) (λv s₁=>AE (AF X.prog X.w) X.A (eval b X.env) (λu s₂=>AE (AF X.prog X.w) X.A (f v u) Q X.xe s₂) X.xe s₁) X.xe s:=by
 refine thn (ha pins s σ H _ I h) λv s1 ⟨x,H1,I1,r1,q1⟩=> ?_
 refine thn (hb pins s1 σ H1 _ I1 q1) λu s2 ⟨y,H2,I2,r2,q2⟩=> ?_
 exact hf v u s2 x y H2 I2 r1 r2 q2
theorem aNJ{op:Operator}{r:R2}(ho:OpR X (Af op) r)(ha:PE X a ta)(hb:PE X b tb):PE X (.BinOp a op b pos) (tOp r ta tb):=by intro pins s σ H Q I h;exact wpAny_BinOp<|aMJ ha hb I h λv u s2 x y H2 I2 rx ry q=>ho pins s2 σ H2 x y v u Q I2 rx ry q
theorem aNm{op:UnaryOp}{r:V->Hp->VK->Prop}(ho:UnR X (unaryOp op) r)(ha:PE X a ta):PE X (.UnaryOp op a pos) (tUn r ta):=by intro pins s σ H Q I h;exact UnaryOp_<|thn (ha pins s σ H _ I h) λv s1 ⟨x,H1,I1,r1,q1⟩=>ho pins s1 σ H1 x v Q I1 r1 q1
theorem opI{f:BA->BA->Sem BA}{C:Int->Int->Prop}{g:Int->Int->Int}
  (rule:∀ (i j:Int) (t u:Tok) (s:BB) (Q:BA->BB->Prop) (E:BA->BB->Prop),C i j->Q (.int (g i j) s.toks) {s with toks:=s.toks+1}->AE (AF X.prog X.w) X.A (f (.int i t)<|.int j u) Q E s):
  OpR X f (rI C λi j=>.int<|g i j):=by
 intro pins s σ H x y v u Q I rx ry h;obtain⟨i,j,rfl,rfl,hc,q⟩:=h;obtain⟨t,rfl⟩:=rx;obtain⟨t',rfl⟩:=ry;exact rule i j t t' s _ _ hc ⟨.int<|g i j,H,I.tok _,⟨_,rfl⟩,q⟩
theorem opI0{f:BA->BA->Sem BA}{g:Int->Int->Int}
  (rule:∀ (i j:Int) (t u:Tok) (s:BB) (Q:BA->BB->Prop) (E:BA->BB->Prop),Q (.int (g i j) s.toks) {s with toks:=s.toks+1}->AE (AF X.prog X.w) X.A (f (.int i t)<|.int j u) Q E s):
  OpR X f (rI0 λi j=>.int<|g i j):=by
 intro pins s σ H x y v u Q I rx ry h;obtain⟨i,j,rfl,rfl,q⟩:=h;obtain⟨t,rfl⟩:=rx;obtain⟨t',rfl⟩:=ry;exact rule i j t t' s _ _ ⟨.int<|g i j,H,I.tok _,⟨_,rfl⟩,q⟩
theorem aMs{f:BA->BA->Sem BA}{g:Int->Int->Bool}
  (rule:∀ (i j:Int) (t u:Tok) (s:BB) (Q:BA->BB->Prop) (E:BA->BB->Prop),Q (.bool<|g i j) s->AE (AF X.prog X.w) X.A (f (.int i t)<|.int j u) Q E s):
  OpR X f (rI0 λi j=>.bl<|g i j):=by
 intro pins s σ H x y v u Q I rx ry h;obtain⟨i,j,rfl,rfl,q⟩:=h;obtain⟨t,rfl⟩:=rx;obtain⟨t',rfl⟩:=ry;exact rule i j t t' s _ _ ⟨.bl<|g i j,H,I,rfl,q⟩
def CPow(i j:Int):Prop:=0<=j/\j<=1000000/\i.natAbs<2^64
theorem fR:OpR X (Af .Add) (rI0 λi j=>.int<|i+j):=opI0 λ_ _ _ _ _ _ _ q=>add_int q
theorem eJ:OpR X (Af .Mod) (rI (λ_ j=>0<j) λi j=>.int<|i%j):=opI λi j _ _ _ _ _ hc q=>by have h1:(0:Int)<j:=hc;exact mod_int' (by omega) (by rw[Int.fmod_eq_emod_of_nonneg i<|by omega];exact q)
theorem yD:OpR X (Af .Pow) (rI CPow λi j=>.int<|i^j.toNat):=opI λ_ _ _ _ _ _ _ hc q=>pow_int_small hc.1 hc.2.1 hc.2.2 q
theorem unI{f:BA->Sem BA}{g:Int->Int}
  (rule:∀ (i:Int) (t:Tok) (s:BB) (Q:BA->BB->Prop) (E:BA->BB->Prop),Q (.int (g i) s.toks) {s with toks:=s.toks+1}->AE (AF X.prog X.w) X.A (f<|.int i t) Q E s):
  UnR X f (rU λi=>.int<|g i):=by
 intro pins s σ H x v Q I rx h;obtain⟨i,rfl,q⟩:=h;obtain⟨t,rfl⟩:=rx;exact rule i t s _ _ ⟨.int<|g i,H,I.tok _,⟨_,rfl⟩,q⟩
theorem aKL:UnR X (unaryOp .USub) (rU λi=>.int (-i)):=unI λ_ _ _ _ _ q=>neg_int q
noncomputable def aMn:V->V->Bool
 |.non,.non=>true | .non,.int _=>true | .int _,.non=>true | .non,.bl _=>true | .bl _,.non=>true | .non,.str _=>true | .str _,.non=>true
 |.int _,.int _=>true | .bl _,.bl _=>true | .str _,.str _=>true | .byt _,.byt _=>true
 |.int _,.str _=>true | .str _,.int _=>true | .bl _,.str _=>true | .str _,.bl _=>true
 |_,_=>false
noncomputable def rEq:R2:=λx y H Q=>aMn x y=true/\Q (.bl (decide<|x=y)) H
noncomputable def rNe:R2:=λx y H Q=>aMn x y=true/\Q (.bl<|!decide (x=y)) H
theorem qI{i j:Int}:decide (V.int i=V.int j)=(i==j):=by rw[dZ];simp
theorem aHm{i j:Bool}:decide (V.bl i=V.bl j)=(i==j):=by rw[dZ];simp
theorem aDm{i j:Str}:decide (V.str i=V.str j)=(i==j):=by rw[dZ];simp
theorem aCs{i j:Array UInt8}:decide (V.byt i=V.byt j)=(i.toList==j.toList):=by rw[dZ];cases i;cases j;simp
theorem dF{Q:VK}{k k':Bool}(I:Inv X pins σ H s)(q:Q (.bl k) H)(e:k=k'):EP X pins σ Q (.bool k') s:=by subst e;exact⟨.bl k,H,I,rfl,q⟩
theorem aKo:OpR X (AK .Eq) rEq:=by
 intro pins s σ H x y v u Q I rx ry h;obtain⟨hs,q⟩:=h;cases x with
 |non=>
  cases rx;cases y with
  |non=>cases ry;exact PySem.EqNone.eq_none_none (dF I q<|by simp)
  |bl j=>cases ry;exact PySem.EqNone.eq_none_bool (dF I q<|by simp)
  |int j=>obtain⟨t',rfl⟩:=ry;exact PySem.EqNone.eq_none_int (dF I q<|by simp)
  |str j=>obtain⟨t',rfl⟩:=ry;exact PySem.EqNone.eq_none_str (dF I q<|by simp)
  |_=>exact absurd (show false=true from hs) bC
 |bl i=>
  cases rx;cases y with
  |non=>cases ry;exact PySem.EqNone.eq_bool_none (dF I q<|by simp)
  |bl j=>cases ry;exact eq_bool<|dF I q aHm
  |str j=>obtain⟨t',rfl⟩:=ry;exact PySem.EqMixed.eq_bool_str (dF I q<|by simp)
  |_=>exact absurd (show false=true from hs) bC
 |int i=>
  obtain⟨t,rfl⟩:=rx;cases y with
  |non=>cases ry;exact PySem.EqNone.eq_int_none (dF I q<|by simp)
  |int j=>obtain⟨t',rfl⟩:=ry;exact eq_int<|dF I q qI
  |str j=>obtain⟨t',rfl⟩:=ry;exact PySem.EqMixed.eq_int_str (dF I q<|by simp)
  |_=>exact absurd (show false=true from hs) bC
 |str i=>
  obtain⟨t,rfl⟩:=rx;cases y with
  |non=>cases ry;exact PySem.EqNone.eq_str_none (dF I q<|by simp)
  |bl j=>cases ry;exact PySem.EqMixed.eq_str_bool (dF I q<|by simp)
  |int j=>obtain⟨t',rfl⟩:=ry;exact PySem.EqMixed.eq_str_int (dF I q<|by simp)
  |str j=>obtain⟨t',rfl⟩:=ry;exact eq_str<|dF I q aDm
  |_=>exact absurd (show false=true from hs) bC
 |byt i=>
  obtain⟨t,rfl⟩:=rx;cases y with
  |byt j=>obtain⟨t',rfl⟩:=ry;exact PySem.W.eq_bytes<|dF I q aCs
  |_=>exact absurd (show false=true from hs) bC
 |_=>cases y<;>exact absurd (show false=true from hs) bC
theorem aNu:OpR X (AK .NotEq) rNe:=by
 intro pins s σ H x y v u Q I rx ry h;obtain⟨hs,q⟩:=h;cases x with
 |non=>
  cases rx;cases y with
  |non=>cases ry;exact PySem.EqNone.ne_none_none (dF I q<|by simp)
  |bl j=>cases ry;exact PySem.EqNone.ne_none_bool (dF I q<|by simp)
  |int j=>obtain⟨t',rfl⟩:=ry;exact PySem.EqNone.ne_none_int (dF I q<|by simp)
  |str j=>obtain⟨t',rfl⟩:=ry;exact PySem.EqNone.ne_none_str (dF I q<|by simp)
  |_=>exact absurd (show false=true from hs) bC
 |bl i=>
  cases rx;cases y with
  |non=>cases ry;exact PySem.EqNone.ne_bool_none (dF I q<|by simp)
  |bl j=>cases ry;exact ne_bool (dF I q<|congrArg not aHm)
  |str j=>obtain⟨t',rfl⟩:=ry;exact PySem.EqMixed.ne_bool_str (dF I q<|by simp)
  |_=>exact absurd (show false=true from hs) bC
 |int i=>
  obtain⟨t,rfl⟩:=rx;cases y with
  |non=>cases ry;exact PySem.EqNone.ne_int_none (dF I q<|by simp)
  |int j=>obtain⟨t',rfl⟩:=ry;exact ne_int (dF I q<|congrArg not qI)
  |str j=>obtain⟨t',rfl⟩:=ry;exact PySem.EqMixed.ne_int_str (dF I q<|by simp)
  |_=>exact absurd (show false=true from hs) bC
 |str i=>
  obtain⟨t,rfl⟩:=rx;cases y with
  |non=>cases ry;exact PySem.EqNone.ne_str_none (dF I q<|by simp)
  |bl j=>cases ry;exact PySem.EqMixed.ne_str_bool (dF I q<|by simp)
  |int j=>obtain⟨t',rfl⟩:=ry;exact PySem.EqMixed.ne_str_int (dF I q<|by simp)
  |str j=>obtain⟨t',rfl⟩:=ry;exact ne_str (dF I q<|congrArg not aDm)
  |_=>exact absurd (show false=true from hs) bC
 |byt i=>
  obtain⟨t,rfl⟩:=rx;cases y with
  |byt j=>obtain⟨t',rfl⟩:=ry;exact PySem.W.ne_bytes (dF I q<|congrArg not aCs)
  |_=>exact absurd (show false=true from hs) bC
 |_=>cases y<;>exact absurd (show false=true from hs) bC
theorem oG:OpR X (AK .Lt) (rI0 λi j=>.bl (decide<|i<j)):=aMs λ_ _ _ _ _ _ _ q=>lt_int q
theorem mV:OpR X (AK .LtE) (rI0 λi j=>.bl (decide<|i<=j)):=aMs λ_ _ _ _ _ _ _ q=>le_int q
theorem aHI:OpR X (AK .Gt) (rI0 λi j=>.bl (decide<|j<i)):=aMs λ_ _ _ _ _ _ _ q=>gt_int q
theorem aHK:OpR X (AK .GtE) (rI0 λi j=>.bl (decide<|j<=i)):=aMs λ_ _ _ _ _ _ _ q=>ge_int q
theorem aDT:OpR X (AK .In) (λx y H Q=>∃i j,x=.str i/\y=.str j/\Q (.bl<|!(Builtin.Str.occurrences j i 0 j.length 1).isEmpty) H):=by intro pins s σ H x y v u Q I rx ry h;obtain⟨i,j,rfl,rfl,q⟩:=h;obtain⟨t,rfl⟩:=rx;obtain⟨t',rfl⟩:=ry;exact in_str<|dF I q rfl
theorem aKx:OpR X (AK .Is) (λx y H Q=>y=.non/\Q (.bl (decide<|x=.non)) H):=by
 intro pins s σ H x y v u Q I rx ry h;obtain⟨rfl,q⟩:=h;cases ry;refine is_none_gen<|dF I q ?_
 cases x<;>first
  |(cases rx;rfl)
  |(obtain⟨t,rfl⟩:=rx;rfl)
theorem yB:OpR X (AK .NotIn) (λx y H Q=>∃i j,x=.str i/\y=.str j/\Q (.bl<|!(!(Builtin.Str.occurrences j i 0 j.length 1).isEmpty)) H):=by intro pins s σ H x y v u Q I rx ry h;obtain⟨i,j,rfl,rfl,q⟩:=h;obtain⟨t,rfl⟩:=rx;obtain⟨t',rfl⟩:=ry;exact notIn_str<|dF I q rfl
theorem OpR.or{f:BA->BA->Sem BA}{r r':R2}(h:OpR X f r)(h':OpR X f r'):OpR X f (λx y H Q=>r x y H Q\/r' x y H Q):=by
 intro pins s σ H x y v u Q I rx ry q
 rcases q with q|q
 ·exact h pins s σ H x y v u Q I rx ry q
 ·exact h' pins s σ H x y v u Q I rx ry q
theorem eK(b:Expr){op:CmpOp}(h:op≠ .In:=by decide)(h2:op≠ .NotIn:=by decide):AQ op b=false:=by
 have e1:(op==CmpOp.In)=false:=by cases op<;>first|rfl|exact absurd rfl h
 have e2:(op==CmpOp.NotIn)=false:=by cases op<;>first|rfl|exact absurd rfl h2
 cases b<;>simp[AQ,e1,e2]
theorem aCu{op:CmpOp}{r:R2}(ho:OpR X (AK op) r)(ha:PE X a ta)(hb:PE X b tb)(hm:AQ op b=false):PE X (.Compare a [op] [b] pos) (tOp r ta tb):=by intro pins s σ H Q I h;exact wpAny_Compare1 (aMJ ha hb I h λv u s2 x y H2 I2 rx ry q=>ho pins s2 σ H2 x y v u Q I2 rx ry q) hm
noncomputable def aKf(t:TE):TT:=λσ H Q=>t σ H λx H'=>∃k,x=.bl k/\Q k H'
theorem aCU{op:CmpOp}{r:R2}(ho:OpR X (AK op) r)(ha:PE X a ta)(hb:PE X b tb)(hm:AQ op b=false):PT X (.Compare a [op] [b] pos) (aKf<|tOp r ta tb):=by
 intro pins s σ H Q I h
 refine wpAny_isTrue_Compare1 (thn (ha pins s σ H _ I h) λv s1 ⟨x,H1,I1,r1,q1⟩=>thn (hb pins s1 σ H1 _ I1 q1) λu s2 ⟨y,H2,I2,r2,q2⟩=>thn (ho pins s2 σ H2 x y v u _ I2 r1 r2 q2) λc s3 ⟨z,H3,I3,r3,k,e,q3⟩=> ?_) hm
 subst e;cases r3;exact AU ⟨H3,I3,q3⟩
noncomputable def aGw(r r':R2)(ta tb tc:TE):TE:=λσ H Q=>ta σ H λx H1=>tb σ H1 λy H2=>r x y H2 λz H3=>∃k,z=.bl k/\
 (if k=true then tc σ H3 λw' H4=>r' y w' H4 Q else Q (.bl false) H3)
theorem aFR{op op':CmpOp}{r r':R2}(ho:OpR X (AK op) r)(ho':OpR X (AK op') r')(ha:PE X a ta)(hb:PE X b tb)(hc:PE X c tc)
  (hm:lastMarks [op,op'] [b,c]=false:=by with_unfolding_all rfl):PE X (.Compare a [op,op'] [b,c] pos) (aGw r r' ta tb tc):=by
 intro pins s σ H Q I h
 refine Compare_chain (thn (ha pins s σ H _ I h) λv s1 ⟨x,H1,I1,r1,q1⟩=>chain_link<|thn (hb pins s1 σ H1 _ I1 q1) λu s2 ⟨y,H2,I2,r2,q2⟩=>thn (ho pins s2 σ H2 x y v u _ I2 r1 r2 q2) λd s3 ⟨z,H3,I3,r3,k,e,q3⟩=> ?_) hm
 subst e;cases r3;refine AU ?_;cases k with
 |false=>exact ite_ff ⟨.bl false,H3,I3,rfl,q3⟩
 |true=>exact ite_tt (chain_last<|thn (hc pins s3 σ H3 _ I3 q3) λw' s4 ⟨z',H4,I4,r4,q4⟩=>ho' pins s4 σ H4 y z' u w' Q I4 r2 r4 q4)
theorem aGb{op op':CmpOp}{r r':R2}(ho:OpR X (AK op) r)(ho':OpR X (AK op') r')(ha:PE X a ta)(hb:PE X b tb)(hc:PE X c tc)
  (hm:lastMarks [op,op'] [b,c]=false:=by with_unfolding_all rfl):PT X (.Compare a [op,op'] [b,c] pos) (aKf<|aGw r r' ta tb tc):=by
 intro pins s σ H Q I h
 refine isTrue_chain (thn (ha pins s σ H _ I h) λv s1 ⟨x,H1,I1,r1,q1⟩=>test_link<|thn (hb pins s1 σ H1 _ I1 q1) λu s2 ⟨y,H2,I2,r2,q2⟩=>thn (ho pins s2 σ H2 x y v u _ I2 r1 r2 q2) λd s3 ⟨z,H3,I3,r3,k,e,q3⟩=> ?_) hm
 subst e;cases r3;refine AU ?_;cases k with
 |false=>obtain⟨k',e',q'⟩:=q3;cases e';exact ite_ff ⟨H3,I3,q'⟩
 |true=>refine ite_tt (test_last<|thn (hc pins s3 σ H3 _ I3 q3) λw' s4 ⟨z',H4,I4,r4,q4⟩=>thn (ho' pins s4 σ H4 y z' u w' _ I4 r2 r4 q4) λd' s5 ⟨z2,H5,I5,r5,k2,e2,q5⟩=> ?_);subst e2;cases r5;exact AU ⟨H5,I5,q5⟩
theorem rH:(AH:Nat)<2^63:=by rw[AM];decide
theorem aBn:OpR X (Af .Add) (λx y H Q=>∃i j,x=.str i/\y=.str j/\i.length+j.length<=AH/\Q (.str<|i++j) H):=by intro pins s σ H x y v u Q I rx ry h;obtain⟨i,j,rfl,rfl,hz,q⟩:=h;obtain⟨t,rfl⟩:=rx;obtain⟨t',rfl⟩:=ry;exact add_str (λt' tk=>⟨.str<|i++j,H,I.tok _,⟨_,rfl⟩,q⟩) hz
theorem mG{x:V}{us:List BA}(r:Vals [x] us):∃u,us=[u]/\RelV x u:=by
 cases r with
 |cons r1 r2=>cases r2;exact⟨_,rfl,r1⟩
theorem aBK{x y:V}{us:List BA}(r:Vals [x,y] us):∃u w',us=[u,w']/\RelV x u/\RelV y w':=by
 cases r with
 |cons r1 r2=>
  cases r2 with
  |cons r3 r4=>cases r4;exact⟨_,_,rfl,r1,r3⟩
theorem aEj(hc:X.calm=true):jK X (.builtin "max") (λxs H Q=>∃i j,xs=[.int i,.int j]/\Q (.int (if j>i then j else i)) H):=by
 intro pins s σ H xs us Q I r h;obtain⟨i,j,rfl,q⟩:=h;obtain⟨u,w',rfl,⟨t,rfl⟩,⟨t',rfl⟩⟩:=aBK r;refine max_two_ints (I.ok.hd hc) λh' tk k=>⟨_,H,I.kept k, ?_,q⟩
 by_cases hj:j>i
 ·rw[if_pos hj,if_pos hj];exact⟨_,rfl⟩
 ·rw[if_neg hj,if_neg hj];exact⟨_,rfl⟩
theorem aDK(hc:X.calm=true):jK X (.builtin "min") (λxs H Q=>∃i j,xs=[.int i,.int j]/\Q (.int (if j<i then j else i)) H):=by
 intro pins s σ H xs us Q I r h;obtain⟨i,j,rfl,q⟩:=h;obtain⟨u,w',rfl,⟨t,rfl⟩,⟨t',rfl⟩⟩:=aBK r;refine min_two_ints (I.ok.hd hc) λh' tk k=>⟨_,H,I.kept k, ?_,q⟩
 by_cases hj:j<i
 ·rw[if_pos hj,if_pos hj];exact⟨_,rfl⟩
 ·rw[if_neg hj,if_neg hj];exact⟨_,rfl⟩
theorem yN:jK X (.type "str") (λxs H Q=>∃i,xs=[.int i]/\i.natAbs.log2<1920/\Q (.str<|toString i) H):=by intro pins s σ H xs us Q I r h;obtain⟨i,rfl,hz,q⟩:=h;obtain⟨u,rfl,t,rfl⟩:=mG r;exact PySem.P.str_of_int hz ⟨.str _,H,I.tok _,⟨_,rfl⟩,q⟩
structure ObjM(h:BE)(x dx C:BC)(mA:Str->Option BA):Prop where
 obj:h.get? x=some (mK C dx)
 ns:h.Ns1 dx mA
 ne:dx≠x
theorem wQ{dx:BC}{mA:Str->Option BA}(n:h.Ns1 dx mA):∃od,h.get? dx=some od/\∀name,vF name od=some (mA name):=by
 obtain⟨o,es,ep,ho,hd,hk,_,hm⟩:=n;refine⟨o,ho,λname=> ?_⟩;have e:=hm name;unfold nsFind findBy at e;rw[<-aEL] at e;unfold vF;rw[hd];dsimp only
 split
 ·rename_i y q;rw[q] at e;exact congrArg some e
 ·rename_i q;rw[q] at e
  have a:es.toList.any (·.refKey)=false:=by rw[sD];intro y hy;obtain⟨z,t,hkey⟩:=hk y<|iY.mp hy;simp[DictEntry.refKey,hkey]
  have a':¬ es.toList.any (·.refKey)=true:=by rw[a];exact bC
  rw[if_neg a'];exact congrArg some e
theorem ObjM.look{dx C:BC}{mA:Str->Option BA}(I:ObjM h x dx C mA):∃od,PySem.W.InstAt h x (mK C dx) C (some od)/\∀name,vF name od=some (mA name):=
 let ⟨od,ho,hl⟩:=wQ I.ns
 ⟨od,⟨I.obj,rfl,rfl,ho⟩,hl⟩
variable {a C dx:BC}{fs fs':List (Str×V)}
theorem aJe(hok:HOk P w H h)(e:H a=some (.ins C dx fs)):∃mA,ObjM h a dx C mA/\(∀f,RelO (fs.lookup f)<|mA f)/\PySem.Within mA (fs.map (·.1))/\fs.length<=1000/\H dx=some (.own a):=by obtain⟨d,z,ne,ob,mA,n,r,q⟩:=(show ObjOk P w H h a (.ins C dx fs) from hok a _ e);exact⟨mA,⟨ob,n,ne⟩,r,q,z,d⟩
structure Cls(K:aA)(C:BC):Prop where
 pg:aEO K C Str.empty=true
 hd:rF K C=true
 po:PySem.W.plainOver K C=true
 sa:cS K (.ref C) "__setattr__"=some (some<|.builtin "object.__setattr__")
theorem Cls.get{K:aA}(c:Cls K C)(f:Str):aEO K C f=true:=c.pg
def aCk(K:aA)(C:BC)(f:Str):Prop:=cS K (.ref C) f=some none
structure Con(K:aA)(C:BC)(f:Str)(v:V)(u:BA):Prop where
 at_:cS K (.ref C) f=some (some u)
 rel:RelV v u
 get:kI K u "__get__"=some none
 cp:PySem.W.copiedNames.contains f=false
structure Meth(K:aA)(C:BC)(m:Str)(f:BC):Prop where
 at_:cS K (.ref C) m=some (some<|.ref f)
 fn:aJM K (.ref f)=true
 kp:bS K (.ref f)=true
variable {f:Str}{v:V}{A:BD}
theorem aDA{prog:AD}{env:Env}{Q:BA->BB->Prop}(hb:Ao e f env (eval e env)=eval e env)
  (h:AE (AF prog w) A (eval e env) (λo s₁=>AE (AF prog w) A (getAttr o f true) Q E s₁) E s):AE (AF prog w) A (eval (.Attribute e f pos) env) Q E s:=
 Attribute_any_ h (by rw[arm_eval_Attribute,hb])
variable {Q:BA->BB->Prop}{c:BA}{b:Bool}
inductive qH(K:aA)(H:Hp):V->BA->Prop where
 |non:qH K H .non (.type "NoneType")
 |bl (x:Bool):qH K H (.bl x) (.type "bool")
 |int (i:Int):qH K H (.int i) (.type "int")
 |str (x:Str):qH K H (.str x) (.type "str")
 |flt (x:UInt64):qH K H (.flt x) (.type "float")
 |lst {a:BC}{xs:List V} (e:H a=some (.lst xs)):qH K H (.ref a) (.type "list")
 |frz {a:BC}{o:BF}{xs:List V} (e:H a=some (.frz o<|.lst xs)):qH K H (.ref a) (.type "list")
 |tup {a:BC}{xs:List V} (e:H a=some (.tup xs)):qH K H (.ref a) (.type "tuple")
 |dK {a:BC}{kvs:List (Key×V)} (e:Rd H a (.dK kvs)):qH K H (.ref a) (.type "dict")
 |dT {a:BC}{kvs:List (List Key×V)} (e:H a=some (.dT kvs)):qH K H (.ref a) (.type "dict")
 |ins {a C dx:BC}{fs:List (Str×V)} (e:H a=some (.ins C dx fs)) (cl:Cls K C) (ha:cS K (.ref C) "__class__"=some (some<|.builtin "object.__class__"))
   (hn:kI K (.builtin "object.__class__") "__get__"=some (some<|.builtin "getset_descriptor.__get__")) (htk:PySem.W.takesIn K (.builtin "object.__class__")=some true)
   (hm:aJw K C (.type "object")=some true):qH K H (.ref a) (.ref C)
theorem aDM{x:V}{u t:BA}(I:Inv X pins σ H s)(rx:RelV x u)(ty:qH X.K H x t)(e:aV X.K t c=some b)(h:∀tk,Q (.bool b) {s with toks:=tk}):
  AE (AF X.prog X.w) A (call (.builtin "isinstance") [u,c]) Q E s:=by
 cases ty with
 |non=>cases(show u=Value.none from rx);exact dB PySem.W.kitx_none I.kIn True.intro e (λz=>nomatch z) h
 |bl y=>cases(show u=Value.bool y from rx);exact dB PySem.W.kitx_bool I.kIn True.intro e (λz=>nomatch z) h
 |int i=>obtain⟨t,q⟩:=(show ∃t,u=Value.int i t from rx);cases q;exact dB PySem.W.kitx_int I.kIn True.intro e (λz=>nomatch z) h
 |str y=>obtain⟨t,q⟩:=(show ∃t,u=Value.str y t from rx);cases q;exact dB PySem.W.kitx_str I.kIn True.intro e (λz=>nomatch z) h
 |flt y=>obtain⟨t,q⟩:=(show ∃t,u=Value.float y t from rx);cases q;exact dB PySem.W.kitx_float I.kIn True.intro e (λz=>nomatch z) h
 |@lst a xs ea=>cases(show u=Value.ref a from rx);obtain⟨_,_,n,_,h1⟩:=(show ObjOk X.prog X.w H s.heap a (.lst xs) from I.hok a _ ea);exact dB aEH I.kIn ⟨_,h1,rfl⟩ e (λz=>nomatch z) h
 |@frz a ob xs ea=>cases(show u=Value.ref a from rx);obtain⟨_,_,_,n,_,h1⟩:=(show ObjOk X.prog X.w H s.heap a (.frz ob<|.lst xs) from I.hok a _ ea);exact dB aEH I.kIn ⟨_,h1,rfl⟩ e (λz=>nomatch z) h
 |@tup a xs ea=>cases(show u=Value.ref a from rx);obtain⟨_,_,_,p⟩:=(show ObjOk X.prog X.w H s.heap a (.tup xs) from I.hok a _ ea);obtain⟨o,h1,h2,_⟩:=p;exact dB PySem.W.kitx_tuple I.kIn ⟨o,h1,h2⟩ e (λz=>nomatch z) h
 |@dK a kvs ea=>cases(show u=Value.ref a from rx);obtain⟨_,_,vs,_,p⟩:=(show ObjOk X.prog X.w H s.heap a (.dK kvs) from ea.ok I.hok);obtain⟨o,es,ep,h1,h2,_⟩:=p;exact dB aEI I.kIn ⟨o,h1,h2.1⟩ e (λz=>nomatch z) h
 |@dT a kvs ea=>cases(show u=Value.ref a from rx);obtain⟨_,_,xs,_,o,es,ep,h1,h2,_⟩:=(show ObjOk X.prog X.w H s.heap a (.dT kvs) from I.hok a _ ea);exact dB aEI I.kIn ⟨o,h1,h2.1⟩ e (λz=>nomatch z) h
 |@ins a C dx fs ea cl ha hn htk hm=>cases(show u=Value.ref a from rx);obtain⟨mA,O,_⟩:=aJe I.hok ea;obtain⟨od,J,_⟩:=O.look;exact dB (PySem.W.kitx_own (cl.get _) cl.hd ha hn htk hm) I.kIn J e (λz=>nomatch z) h
structure Room(k:Nat)(A:BD):Prop where
 hd:A.handled=none
 dp:A.depth+3*k+5<recursionLimit
 un:A.units+16*k+200<AN
 gd:A.guards=some []
theorem Room.mono{j k:Nat}(r:Room k A)(h:j<=k):Room j A:=⟨r.hd,by have:=r.dp;omega,by have:=r.un;omega,r.gd⟩
theorem Room.deeper{k:Nat}(r:Room (k+1) A)(env:Env):Room k (A.deeper env):=
 ⟨r.hd,by have:=r.dp;show A.depth+1+3*k+5<_;omega,by have:=r.un;show A.units+3+16*k+200<_;omega,r.gd⟩
theorem aBr{us:List BA}{kw:List (Str×BA)}:(A.under<|.builtin "type.__call__" ⟨.ref C::us,kw⟩).depth=A.depth+1:=by first|rfl|simp[Around.under,Code.weight,Code.isCreation,Code.isGuard,Code.isCaller,Code.frames,Code.isFrame,guardIds]
theorem aBf{us:List BA}{kw:List (Str×BA)}:(A.under<|.builtin "type.__call__" ⟨.ref C::us,kw⟩).units=A.units+1:=by first|rfl|simp[Around.under,Code.cUnits,Code.frames,Code.isFrame]
theorem Room.make{k:Nat}(r:Room (k+1) A)(C:BC)(us:List BA)(kw:List (Str×BA)):Room k (A.under<|.builtin "type.__call__" ⟨.ref C::us,kw⟩):=
 ⟨r.hd,by have:=r.dp;rw[aBr];omega,by have:=r.un;rw[aBf];omega,by rw[show(A.under<|.builtin "type.__call__" ⟨.ref C::us,kw⟩).guards=pushGuards (Code.builtin "type.__call__" ⟨.ref C::us,kw⟩).guards A.guards from rfl,r.gd];first|rfl|simp[Code.guards,Code.isGuard,guardIds,pushGuards]⟩
theorem Room.depth{k:Nat}(r:Room k A):A.depth<recursionLimit:=by have:=r.dp;omega
noncomputable def aHw:TA:=λ_ H Q=>Q [] H
noncomputable def sB(ta:TE)(tr:TA):TA:=λσ H Q=>ta σ H λx H1=>tr σ H1 λxs H2=>Q (x::xs) H2
variable {es:List Expr}{t:TA}
theorem pa_nil:PA X [] aHw:=λ_ _ _ _ H Q I h=>Calls.spliced_nil ⟨[],H,I,.nil,h⟩
theorem eF(ha:PE X e te)(hr:PA X es t)(hs:AB (e::es) X.env=(false,eval e X.env)::AB es X.env:=by rfl):PA X (e::es) (sB te t):=by intro pos pins s σ H Q I h;rw[hs];show AE _ _ (spliced ((false,eval e X.env)::AX pos (AB es X.env))) _ _ s;refine Calls.spliced_cons<|thn (ha pins s σ H _ I h) λu s1 ⟨x,H1,I1,r1,q1⟩=> ?_;exact thn (hr pos pins s1 σ H1 _ I1 q1) λus s2 ⟨xs,H2,I2,r2,q2⟩=>⟨x::xs,H2,I2,.cons r1 r2,q2⟩
noncomputable def tTup(t:TA):TE:=λσ H Q=>t σ H λxs H1=>xs.length<=AH/\∀p,H1 p=none->Q (.ref p) (upd H1 p<|.tup xs)
noncomputable def tLst(t:TA):TE:=λσ H Q=>t σ H λxs H1=>xs.length<=AH/\∀p,H1 p=none->Q (.ref p) (upd H1 p<|.lst xs)
theorem aHi{x1}(h:PA X es t):PE X (.Tuple es x1 pos) (tTup t):=by intro pins s σ H Q I hq;refine wpAny_Tuple_spliced<|thn (h pos pins s σ H _ I hq) λus s1 ⟨xs,H1,I1,r,z,q⟩=>⟨by rw[<-r.length];exact z, ?_⟩;have hf:H1 s1.heap.objs.size=none:=I1.hok.fresh<|aO _;refine⟨.ref s1.heap.objs.size,upd H1 s1.heap.objs.size<|.tup xs,I1.laid (t':=s1.toks) (λb u e=>aC _ e) (aO _) ?_,rfl,q _ hf⟩;exact⟨z,us,r,IsTupD.new _ _⟩
theorem aLf(h:PA X es t):PE X (.List es pos) (tLst t):=by intro pins s σ H Q I hq;refine wpAny_List_spliced<|thn (h pos pins s σ H _ I hq) λus s1 ⟨xs,H1,I1,r,z,q⟩=>⟨by rw[<-r.length];exact z, ?_⟩;have hf:H1 s1.heap.objs.size=none:=I1.hok.fresh<|aO _;refine⟨.ref s1.heap.objs.size,upd H1 s1.heap.objs.size<|.lst xs,I1.laid (t':=s1.toks) (λb u e=>aC _ e) (aO _) ?_,rfl,q _ hf⟩;exact⟨z,us,0,r,aY _ rfl⟩
noncomputable abbrev Sp:=List V->Hp->VK->XK->Prop
noncomputable abbrev CXT:=List Env->Hp->BB->XK->BA->BB->Prop
structure Env0(P:AD)(w:AG)(K:aA)(mg:Str->Option BA)(base:BE)(A:BD)(outer:List Env)(s:BB)(H:Hp):Prop where
 frames:A.frames=some outer
 mod:Mod K mg base
 bs:∀b o,base.get? b=some o->s.heap.get? b=some o/\H b=none
 bsz:base.objs.size<=s.heap.objs.size
 funs:s.heap.FunFrames base outer
 frf:∀b∈frs outer,H b=none
 hok:HOk P w H s.heap
 bare:AllBare s.gens
def CE(outer:List Env)(P:AD)(w:AG)(H:Hp)(s:BB)(Q:VK)(u:BA)(s':BB):Prop:=
 ∃v H',s'.os=s.os/\AllBare s'.gens/\Un (frs outer) [] H H' s.heap s'.heap/\HOk P w H' s'.heap/\RelV v u/\Q v H'
def CR(CX:CXT)(outer:List Env)(P:AD)(w:AG)(H:Hp)(s:BB)(Q:VK)(E:XK)(r:Result)(s':BB):Prop:=
 match r with
 |.ok (.ret u)=>CE outer P w H s Q u s'
 |.ok _=>False
 |.error e=>CX outer H s E e s'
structure FnOk(P:AD)(w:AG)(K:aA)(mg:Str->Option BA)(base:BE)(CX:CXT)(k:Nat)(f:BC)(fd:AJ)(ps:List Str)(sp:Sp):Prop where
 len:∀vs H Q E,sp vs H Q E->vs.length=ps.length
 run:∀ (A:BD) (outer:List Env) (s:BB) (H:Hp) (args:Args) (us:List BA) (vs:List V) (Q:VK) (E:XK),Room k A->Env0 P w K mg base A outer s H->BindsTo s fd args (ps.zip us)->Vals vs us->sp vs H Q E->
  codeAny (AF P w) A (.call (.ref f) args) (CR CX outer P w H s Q E) s
theorem Env0.make{K:aA}{mg:Str->Option BA}{base:BE}{outer:List Env}(e:Env0 P w K mg base A outer s H)(C:BC)(us:List BA)(kw:List (Str×BA)):
  Env0 P w K mg base (A.under<|.builtin "type.__call__" ⟨.ref C::us,kw⟩) outer s H:=⟨by first|exact e.frames|(simpa[Around.under,Code.envs,Code.isFrame,pushEnvs] using e.frames),e.mod,e.bs,e.bsz,e.funs,e.frf,e.hok,e.bare⟩
variable {s':BB}
theorem Inv.env0(I:Inv X pins σ H s):Env0 X.prog X.w X.K X.mg X.base X.A X.stack s H:=
 ⟨I.ok.frames,I.ok.mod,I.bs,aQ I.ok.bsz I.sz,I.stack,I.stkFree,I.hok,I.bare⟩
theorem Inv.after{Q:VK}{u:BA}(I:Inv X pins σ H s)(h:CE X.stack X.prog X.w H s Q u s'):EP X pins σ Q u s':=by obtain⟨v,H',os,bare,un,hok,r,q⟩:=h;obtain⟨hh,g,d,t,os'⟩:=s';obtain rfl:os'=s.os:=os;exact⟨v,H',I.call (h':=hh) (g':=g) (d':=d) (t':=t) (ch:=[]) un hok bare (λb z=>absurd z<|by simp),r,q⟩
noncomputable def aNk(sp:Sp)(dvs:List V)(E:XK)(t:TA):TE:=λσ H Q=>t σ H λvs H1=>sp (vs++dvs) H1 Q E
def Binds(K:aA)(fd:AJ)(ps:List Str)(ds:List BA):Prop:=
 ∀ (s:BB) (us:List BA),K.In s.heap->(us++ds).length=ps.length->BindsTo s fd ⟨us,[]⟩ (ps.zip<|us++ds)
theorem Binds.all{K:aA}{fd:AJ}{ps:List Str}(h:∀us:List BA,us.length=ps.length->bindArgs fd ⟨us,[]⟩=pure (ps.zip us)):Binds K fd ps []:=λs us _ hl=>by rw[dC] at hl ⊢;exact .of_eq<|h us hl
def aBZ(CX:CXT)(X:Cx)(E:XK):Prop:=∀ (pins:List (BC×BF)) (σ:St) (H:Hp) (s:BB) (e:BA) (s':BB),Inv X pins σ H s->CX X.stack H s E e s'->X.xe e s'
variable {CX:CXT}{k:Nat}{f:BC}{fd:AJ}{ps:List Str}{sp:Sp}{dvs:List V}{ds:List BA}{E:XK}{x m:Str}{p apos:Pos}{o:Expr}
theorem aLA{Q:VK}{us:List BA}{vs:List V}(F:FnOk X.prog X.w X.K X.mg X.base CX k f fd ps sp)(hr:Room k X.A)(hb:Binds X.K fd ps ds)(hd:Vals dvs ds)(hx:aBZ CX X E)
  (I:Inv X pins σ H s) (r:Vals vs us) (h:sp (vs++dvs) H Q E):AE (AF X.prog X.w) X.A (call (.ref f) us) (EP X pins σ Q) X.xe s:=by
 have r2:Vals (vs++dvs) (us++ds):=r.append hd;have hl:(us++ds).length=ps.length:=by rw[<-r2.length];exact F.len _ _ _ _ h
 refine wpAny_call<|Ag (F.run X.A X.stack s H ⟨us,[]⟩ (us++ds) (vs++dvs) Q E hr I.env0 (hb s us I.kIn hl) r2 h) λr s' hq=> ?_;cases r with
 |error e=>exact hx pins σ H s e s' I hq
 |ok fl=>
  cases fl with
  |ret u=>exact I.after hq
  |next=>exact False.elim hq
  |brk=>exact False.elim hq
  |cont=>exact False.elim hq
theorem aIU(F:FnOk X.prog X.w X.K X.mg X.base CX k f fd ps sp)(hr:Room k X.A)(hg:Gl X x)(hm:X.mg x=some (.ref f))(hk:bS X.K (.ref f)=true)(hb:Binds X.K fd ps ds)(hd:Vals dvs ds)(hx:aBZ CX X E)
  (ha:PA X (e::es) t) (hdb:(x==("__debug__":Str))=false:=by decide) (he:AB (e::es) X.env=(false,eval e X.env)::AB es X.env:=by rfl) (hpl:(AX pos<|AB es X.env).any (·.1)=false:=by rfl):
  PE X (.Call (.Name x p) (e::es) [] pos) (aNk sp dvs E t):=by
 intro pins s σ H Q I h;refine AZ<|pM I hg hm ?_ hdb;refine oZ (h₀:=X.base) I.ok.mod.kin hk (thn (ha pos pins s σ H _ I h) λus s1 ⟨vs,H1,I1,r,q⟩=>⟨I1.kIn, ?_⟩) he hpl;exact aLA F hr hb hd hx I1 r q
structure Mk(K:aA)(C f:BC):Prop where
 makes:PySem.W.makesIn K C=true
 init:cS K (.ref C) "__init__"=some (some<|.ref f)
 fn:aJM K (.ref f)=true
 kp:bS K (.ref C)=true
section
variable {X:Cx}{CX:CXT}{k:Nat}{f C:BC}{fd:AJ}{ps ks:List Str}{sp:Sp}{E:XK}{x m:Str}{p pos apos kpos:Pos}{e o:Expr}{es:List Expr}{kws:List Keyword}{te ta:TE}{t tk:TA}{nm:Option Str}
structure aON(K:aA)(fd:AJ)(ps ks:List Str)(g:List BA->List BA->List BA)(gV:List V->List V->List V):Prop where
 to:∀ (s:BB) (us ws:List BA),K.In s.heap->(g us ws).length=ps.length->BindsTo s fd ⟨us,ks.zip ws⟩ (ps.zip<|g us ws)
 rel:∀ {vs:List V}{us:List BA}{zs:List V}{ws:List BA},Vals vs us->Vals zs ws->Vals (gV vs zs) (g us ws)
variable {g:List BA->List BA->List BA}{gV:List V->List V->List V}
end
structure jC(N P:List Str)(sc:Scope):Prop where
 kind:sc.kind=.function
 co:sc.isCoroutine=false
 gen:sc.isGenerator=false
 nd:N.Nodup
 pre:N.take P.length=P
 par:∀x∈P,sc.names.lookup x=some .local\/sc.names.lookup x=some .cell
 nofree:∀y∈sc.names,y.2≠ .free
theorem wO{kindOf:Str->Option NameKind}{x:Str}:∀ {binds:List (Str×BA)}{m:Str->Option BA},(∀v,(x,v)∉binds)->bindL kindOf binds m x=m x
 |[],_,_=>rfl
 |(n,v)::r,m,h=>by
  unfold bindL;rw[wO λw hw=>h w<|aH _ hw]
  split
  ·have:x≠n:=by rintro rfl;exact h v aM
   simp[this]
  ·rfl
theorem xB{kindOf:Str->Option NameKind}{x:Str}:∀ {binds:List (Str×BA)}{m:Str->Option BA},(∀v,(x,v)∉binds)->bindC kindOf binds m x=m x
 |[],_,_=>rfl
 |(n,v)::r,m,h=>by
  unfold bindC;rw[xB λw hw=>h w<|aH _ hw]
  split
  ·rfl
  ·have:x≠n:=by rintro rfl;exact h v aM
   simp[this]
theorem vZ{kindOf:Str->Option NameKind}{x:Str}{v:BA}:∀ {P:List Str}{vs:List BA}{i:Nat}{m:Str->Option BA},P.Nodup->P[i]? =some x->vs[i]? =some v->kindOf x=some .local->
  bindL kindOf (P.zip vs) m x=some v
 |[],_,_,_,_,h,_,_=>by simp at h
 |_::_,[],_,_,_,_,h,_=>by simp at h
 |p::P,w::vs,0,m,nd,h1,h2,hk=>by simp at h1 h2;subst h1;subst h2;show bindL kindOf ((p,w)::P.zip vs) m p=_;unfold bindL;rw[wO λv hv=>(dY.mp nd).1 (vJ hv).1,if_pos hk];simp
 |p::P,w::vs,i+1,m,nd,h1,h2,hk=>by show bindL kindOf ((p,w)::P.zip vs) m x=_;unfold bindL;exact vZ (i:=i) (dY.mp nd).2 (by simpa using h1) (by simpa using h2) hk
theorem wV{kindOf:Str->Option NameKind}{x:Str}{v:BA}:∀ {P:List Str}{vs:List BA}{i:Nat}{m:Str->Option BA},P.Nodup->P[i]? =some x->vs[i]? =some v->kindOf x≠some .local->
  bindC kindOf (P.zip vs) m x=some v
 |[],_,_,_,_,h,_,_=>by simp at h
 |_::_,[],_,_,_,_,h,_=>by simp at h
 |p::P,w::vs,0,m,nd,h1,h2,hk=>by simp at h1 h2;subst h1;subst h2;show bindC kindOf ((p,w)::P.zip vs) m p=_;unfold bindC;rw[xB λv hv=>(dY.mp nd).1 (vJ hv).1,if_neg hk];simp
 |p::P,w::vs,i+1,m,nd,h1,h2,hk=>by show bindC kindOf ((p,w)::P.zip vs) m x=_;unfold bindC;exact wV (i:=i) (dY.mp nd).2 (by simpa using h1) (by simpa using h2) hk
noncomputable def start(N:List Str)(vs:List V):St:=vs.map some++bL (N.length-vs.length) none
noncomputable def jQ(CX:CXT)(P:AD)(w:AG)(K:aA)(mg:Str->Option BA)(base:BE)(N:List Str)(qual:Str)(scope:Scope)(f:BC)(cd:BA)(A:BD)(outer:List Env)(s:BB)(H:Hp)(E:XK):Cx where
 prog:=P
 w:=w
 K:=K
 mg:=mg
 base:=base
 A:=A.deeper<|Ak qual scope s.heap.objs.size f cd
 N:=N
 s₀:=s
 H₀:=H
 env:=Ak qual scope s.heap.objs.size f cd
 outer:=outer
 stack:=Ak qual scope s.heap.objs.size f cd::outer
 ex:=[]
 calm:=true
 fn:=λ_=>true
 pn:=[]
 xe:=λe s'=>AE (AF P w) (A.deeper<|Ak qual scope s.heap.objs.size f cd) (leaving (Ak qual scope s.heap.objs.size f cd) e) (λ_ s''=>CX outer H s E e s'') (λe' s''=>CX outer H s E e' s'') s'
theorem aAy{sc:Scope}{n:Nat}(h:sc.names.lookup x=some .cell):∃c,(cellsFrom n sc.names []).lookup x=some c:=by have q:=zS sc.names n []<|.inl h;exact kR.mp q
theorem aDS{K:aA}{mg:Str->Option BA}{base:BE}{N:List Str}{qual:Str}{scope:Scope}{cd:BA}{outer:List Env}{s1:BB}{us:List BA}{vs:List V}
  (S:jC N ps scope) (hd:A.handled=none) (e0:Env0 P w K mg base A outer s H) (hl:vs.length=ps.length) (r:Vals vs us)
  (x:InCallC s s.heap.objs.size (bindL (Ak qual scope s.heap.objs.size f cd).kindOf (ps.zip us) λ_=>none) (cellsFrom (s.heap.objs.size+1) scope.names []) (bindC (Ak qual scope s.heap.objs.size f cd).kindOf (ps.zip us) λ_=>none) s1):
  Inv (jQ CX P w K mg base N qual scope f cd A outer s H E) [] (start N vs) H s1:=by
 have hpl:ps.length<=N.length:=by have:=congrArg lH S.pre;rw[eC] at this;omega
 obtain⟨h1,tk,rfl,hk⟩:=x.done;have noA:∀b:BC,b∉(jQ CX P w K mg base N qual scope f cd A outer s H E).ex:=λb z=>absurd (show b∈([]:List BC) from z)<|by simp
 refine ⟨⟨e0.mod,S.kind,rfl,rfl,aO _,fun y z c h1 h2=> ?_,fun y hy=> ?_,fun y c _ h=> ?_,fun _=>hd,Around.frames_deeper e0.frames, .inr ⟨rfl,rfl⟩,fun b z=>absurd z (noA b),e0.bs,e0.bsz,fun b _ _=>noA b,fun b z=>absurd z (noA b),e0.funs,e0.frf⟩,
  rfl,e0.bare,Un.kept hk,⟨_,x.toInCall.ns,λi y v h1 h2 h3=> ?_⟩,λy c h=>⟨_,x.cell y c h⟩,e0.hok.fresh (aO _),λy c h=> ?_,λp hp=>absurd (show p∈([]:List (BC×BF)) from hp) (by simp),e0.hok.kept hk, ?_⟩
 ·exact name_of_addr x.apart (PySem.mem_of_lookup h1)<|PySem.mem_of_lookup h2
 ·have hy:scope.names.lookup y=some .cell\/scope.names.lookup y=some .free:=hy
  rcases hy with hy|hy
  ·exact aAy hy
  ·exact absurd rfl (S.nofree _<|PySem.mem_of_lookup hy)
 ·exact dW (x.above y c<|PySem.mem_of_lookup h)
 ·have hi:i<vs.length:=by
   unfold start at h2
   by_cases hi:i<vs.length
   ·exact hi
   ·rw[xD<|by simpa using hi] at h2;rw[List.getElem?_replicate] at h2
    split at h2<;>cases h2
  have ha:vs[i]? =some v:=by
   unfold start at h2;rw[zP (by simpa using hi),bQ] at h2;cases e:vs[i]? with
   |none=>rw[e] at h2;cases h2
   |some a=>rw[e] at h2;cases h2;rfl
  obtain⟨u,hu,rv⟩:=r.get ha
  have hp:ps[i]? =some y:=by rw[<-S.pre,List.getElem?_take_of_lt<|by omega];exact h1
  have ndP:ps.Nodup:=by rw[<-S.pre];exact S.nd.sublist<|List.take_sublist _ _
  refine⟨u,rv, ?_⟩
  rcases S.par y (cK hp) with k|k
  ·exact .inl ⟨k,vZ ndP hp hu k⟩
  ·obtain⟨c,e⟩:=aAy (n:=s.heap.objs.size+1) k;refine .inr ⟨.inl k,c,e, ?_⟩;have q:=x.cell y c e;rw[wV ndP hp hu<|by show scope.names.lookup y≠_;rw[k];decide] at q;exact q
 ·exact e0.hok.fresh<|dW (x.above y c<|PySem.mem_of_lookup h)
 ·unfold start;show _=N.length;rw[aU,aD,List.length_replicate];omega
theorem aKh{K:aA}{mg:Str->Option BA}{base:BE}{name qual:Str}{params:Arguments}{body:List BG}{scope:Scope}{dV kV doc pm cdv ct oc:BA}{an od:Option BC}
  {osl:Array (Option BA)}{N ps:List Str}{sp:Sp} (lk:K.lookup f=some ⟨oc,od,.func<|cU name qual params body scope dV kV doc pm an cdv ct,osl⟩) (hcd:fE K cdv qual=true) (S:jC N ps scope)
  (len:∀vs H Q E,sp vs H Q E->vs.length=ps.length)
  (hbody:∀ (A:BD) (outer:List Env) (s:BB) (H:Hp) (vs:List V) (Q:VK) (E:XK),Room k (A.deeper (Ak qual scope s.heap.objs.size f cdv))→sp vs H Q E→
   ∃t,PSs (jQ CX P w K mg base N qual scope f cdv A outer s H E) body t/\t {nx:=λ_ H'=>Q .non H',rt:=Q} (start N vs) H):
  FnOk P w K mg base CX (k+1) f (cU name qual params body scope dV kV doc pm an cdv ct) ps sp:=by
 refine⟨len,λA outer s H args us vs Q E hr e0 hb r hsp=> ?_⟩;have hl:=len _ _ _ _ hsp;have KX:K.In s.heap:=e0.mod.kin.keeps λb o e=>(e0.bs b o e).1
 have lim:s.heap.NoLimit:=e0.mod.nolimit.keeps λb o e=>(e0.bs b o e).1
 have hkind:∀y∈ps.zip us,scope.names.lookup y.1=some .local\/(scope.names.lookup y.1=some .cell/\((cellsFrom (s.heap.objs.size+1) scope.names []).lookup y.1).isSome=true):=λ⟨n,v⟩ hy=>by
  rcases S.par n (vJ hy).1 with q|q
  ·exact .inl q
  ·exact .inr ⟨q,zS _ _ _<|.inl q⟩
 refine codeAny_call_function hr.depth (KX _ _ lk) rfl S.co S.gen rfl (PySem.W.codeRec_of KX hcd)<|hb _ _ _ _ ?_;refine wpAny_newFunctionEnv_cells S.kind hkind λenv he s1 x=> ?_
 subst he;refine⟨lim.keeps x.toInCall.keep,codeAny_func ?_⟩;obtain⟨t,ht,hq⟩:=hbody A outer s H vs Q E (hr.deeper _) hsp;have I:Inv (jQ CX P w K mg base N qual scope f cdv A outer s H E) [] (start N vs) H s1:=aDS S hr.hd e0 hl r x;refine AY (ht [] s1 (start N vs) H _ I hq) (λfl s' hs=> ?_) λe s' hs=>hs
 have fin:∀ {σ':St}{H':Hp}{v:V}{u:BA},Inv (jQ CX P w K mg base N qual scope f cdv A outer s H E) [] σ' H' s'->RelV v u->Q v H'->CE outer P w H s Q u s':=
  λ{σ' H' v u} J rv q=>⟨v,H',J.os,J.bare,J.base,J.hok,rv,q⟩
 cases fl with
 |ret u=>obtain⟨v,σ',H',J,rv,q⟩:=hs;exact fin J rv q
 |next=>obtain⟨σ',H',J,q⟩:=hs;exact fin (v:=V.non) (u:=Value.none) J rfl q
 |brk=>obtain⟨_,_,_,q⟩:=hs;exact False.elim q
 |cont=>obtain⟨_,_,_,q⟩:=hs;exact False.elim q
section
variable {X:Cx}{x:Str}{p pos:Pos}{e:Expr}{es:List Expr}{t:TA}{id T:String}{r:List V->Hp->VK->Prop}
noncomputable def tCB(r:List V->Hp->VK->Prop)(t:TA):TE:=λσ H Q=>t σ H λvs H1=>r vs H1 Q
theorem qJ(hc:jK X (.builtin id) r)(hg:Gl X x)(hm:X.mg x=none)(hv:AT x=some (.builtin id))(ha:PA X (e::es) t)(hn:x≠"__name__":=by decide)(hdb:(x==("__debug__":Str))=false:=by decide)
  (he:AB (e::es) X.env=(false,eval e X.env)::AB es X.env:=by rfl) (hpl:(AX pos<|AB es X.env).any (·.1)=false:=by rfl):PE X (.Call (.Name x p) (e::es) [] pos) (tCB r t):=by
 intro pins s σ H Q I h;refine AZ<|nE I hg hm hv ?_ hn hdb;exact PyProof.Rows.callWith_builtin1 (thn (ha pos pins s σ H _ I h) λus s1 ⟨vs,H1,I1,r1,q1⟩=>hc pins s1 σ H1 vs us Q I1 r1 q1) he hpl
theorem aEt(hc:jK X (.type T) r)(hg:Gl X x)(hm:X.mg x=none)(hv:AT x=some (.type T))(ha:PA X (e::es) t)(hn:x≠"__name__":=by decide)(hdb:(x==("__debug__":Str))=false:=by decide)
  (he:AB (e::es) X.env=(false,eval e X.env)::AB es X.env:=by rfl) (hpl:(AX pos<|AB es X.env).any (·.1)=false:=by rfl):PE X (.Call (.Name x p) (e::es) [] pos) (tCB r t):=by
 intro pins s σ H Q I h;refine AZ<|nE I hg hm hv ?_ hn hdb;exact PyProof.Rows.callWith_type1 (thn (ha pos pins s σ H _ I h) λus s1 ⟨vs,H1,I1,r1,q1⟩=>hc pins s1 σ H1 vs us Q I1 r1 q1) he hpl
end
end L2
namespace HT
open PySem PyProof.Rows
noncomputable def lexLt:List Int->List Int->Bool
 |[],[]=>false
 |[],_::_=>true
 |_::_,[]=>false
 |x::xs,y::ys=>if x=y then lexLt xs ys else decide (x<y)
section
open PySem.SeqAt
open PySem.AutoSeq1 (wpAny_loadPart')
open PySem.MeetsSeq PySem.MeetsSeq2 PySem.MeetsSeq3
end
variable {prog:AD}{w:AG}{A:BD}{E:BA->BB->Prop}{s:BB}
theorem cat_tup{t b:BC}{vs ws:List BA}{Q:BA->BB->Prop}(ht:IsTup s.heap t vs.toArray)(hb:IsTup s.heap b ws.toArray)(hv:vs≠[])
  (h1:ws=[]->Q (.ref t) s) (h2:ws≠[]->Q (.ref s.heap.objs.size) {s with heap:=s.heap.push {cls:=.type "tuple",data:=.seq (vs++ws).toArray}})
  (hsz:vs.length+ws.length<=AH):AE (AF prog w) A (Af .Add (.ref t)<|.ref b) Q E s:=by
 obtain⟨⟨cls,dd,data,sl⟩,ho,hc,n,hd⟩:=id ht;obtain⟨⟨cls2,dd2,data2,sl2⟩,ho2,hc2,n2,hd2⟩:=id hb;simp only at hc hd hc2 hd2;subst hc hd hc2 hd2;have e:vs.toArray++ws.toArray=(vs++ws).toArray:=by simp
 by_cases hw:ws=[]
 ·exact concat_meets ⟨_,ho,rfl⟩ ⟨_,ho2,rfl⟩ noFill_tuple_add seq_tuple_add mE lJ (kN _ _)
   (tuple_addW1 t b vs.toArray ws.toArray n n2 dd dd2 sl sl2 (by simpa using hv)<|by simp[hw]) ⟨ho,ho2,h1 hw⟩
 ·refine concat_meets ⟨_,ho,rfl⟩ ⟨_,ho2,rfl⟩ noFill_tuple_add seq_tuple_add mE lJ (kN _ _)
   (tuple_addW2 t b vs.toArray ws.toArray n n2 dd dd2 sl sl2 (by simpa using hv) (by simpa using hw)<|by rw[aI,aI];exact hsz) ⟨ho,ho2, ?_⟩
  rw[e];exact h2 hw
noncomputable def sIx(n d:Nat):Option Int->Nat
 |none=>d
 |some v=>if v<0 then(v+(n:Int)).toNat else min v.toNat n
theorem sIx_none(n d:Nat):sIx n d none=d:=rfl
theorem sIx_nat(n d k:Nat):sIx n d (some (k:Int))=min k n:=by show(if(k:Int)<0 then((k:Int)+(n:Int)).toNat else min (k:Int).toNat n)=min k n;rw[if_neg<|by omega,cD]
end HT
namespace L2
open PySem PySem.Spec PyProof.Rows
noncomputable abbrev TO:=St->Hp->(Option Int->Hp->Prop)->Prop
def PO(X:Cx)(e:Option Expr)(t:TO):Prop:=
 ∀ (pins:List (BC×BF)) (s:BB) (σ:St) (H:Hp) (Q:Option Int->Hp->Prop),Inv X pins σ H s->t σ H Q->
  AE (AF X.prog X.w) X.A (evalPart e X.env) (λu s'=>∃o H',Inv X pins σ H' s'/\IsPart u o/\Q o H') X.xe s
noncomputable def aIh:TO:=λ_ H Q=>Q none H
noncomputable def aNT(t:TE):TO:=λσ H Q=>t σ H λx H1=>∃i,x=.int i/\Q (some i) H1
variable {X:Cx}{e:Expr}{te:TE}{lo hi:Option Expr}{tl th:TO}{pos p2:Pos}
theorem aIi:PO X none aIh:=by intro pins s σ H Q I h;rw[evalPart_none];exact AC ⟨none,H,I,.none,h⟩
theorem aHR(h:PE X e te):PO X (some e) (aNT te):=by
 intro pins s σ H Q I hw;rw[evalPart_some];refine thn (h pins s σ H _ I hw) λu s1 ⟨x,H1,I1,r1,q1⟩=> ?_
 obtain⟨i,rfl,q⟩:=q1;obtain⟨t,rfl⟩:=r1;exact⟨some i,H1,I1,.int i t,q⟩
def SlR(X:Cx)(r:V->Option Int->Option Int->Hp->VK->Prop):Prop:=
 ∀ (pins:List (BC×BF)) (s:BB) (σ:St) (H:Hp) (x:V) (v vl vu:BA) (lo hi:Option Int) (sl:BC) (Q:VK),Inv X pins σ H s->RelV x v->s.heap.IsSliceOf sl vl vu .none->IsPart vl lo->IsPart vu hi->r x lo hi H Q->
  ∃T id,typeLookup (.type T) "__getitem__"=pure (some<|.builtin id)/\s.TypeIs v T/\AE (AF X.prog X.w) X.A (getItem v<|.ref sl) (EP X pins σ Q) X.xe s
noncomputable def tSl(r:V->Option Int->Option Int->Hp->VK->Prop)(te:TE)(tl th:TO):TE:=λσ H Q=>te σ H λx H1=>tl σ H1 λl H2=>th σ H2 λu H3=>r x l u H3 Q
theorem aAM{r:V->Option Int->Option Int->Hp->VK->Prop}(hr:SlR X r)(he:PE X e te)(hl:PO X lo tl)(hu:PO X hi th):PE X (.Subscript e (.Slice lo hi none p2) pos) (tSl r te tl th):=by
 intro pins s σ H Q I h;refine Subscript_<|thn (he pins s σ H _ I h) λv s1 ⟨x,H1,I1,r1,q1⟩=> ?_;refine wpAny_Slice<|thn (hl pins s1 σ H1 _ I1 q1) λvl s2 ⟨l,H2,I2,pl,q2⟩=>thn (hu pins s2 σ H2 _ I2 q2) λvu s3 ⟨u,H3,I3,pu,q3⟩=> ?_;rw[evalPart_none];refine AC ?_;have I4:Inv X pins σ H3 {s3 with heap:=s3.heap.push {cls:=.type "slice",data:=.fields #[vl,vu,.none]}}:=I3.kept (t':=s3.toks) λb ob q=>aC _ q
 obtain⟨T,id,hT,ht,hg⟩:=hr pins {s3 with heap:=s3.heap.push {cls:=.type "slice",data:=.fields #[vl,vu,.none]}} σ H3 x v vl vu l u s3.heap.objs.size Q I4 r1 (Heap.IsSliceOf.new ..) pl pu q3;show AE (AF X.prog X.w) X.A (subscriptTail e (.Slice lo hi none p2) v<|.ref s3.heap.objs.size) (EP X pins σ Q) X.xe {s3 with heap:=s3.heap.push {cls:=.type "slice",data:=.fields #[vl,vu,.none]}};exact tail_any (ops:=[.ref s3.heap.objs.size,v]) ht hT hg (by with_unfolding_all rfl)
noncomputable def aHy(xs:List V)(lo hi:Option Int):List V:=(xs.drop<|HT.sIx xs.length 0 lo).take<|HT.sIx xs.length xs.length hi-HT.sIx xs.length 0 lo
theorem aAa(xs:List V)(lo hi:Option Int):(aHy xs lo hi).length<=xs.length:=by unfold aHy;rw[eC,iT];omega
noncomputable def aNo(K:aA):R2:=λx y H Q=>∃a b xs ys,x=.ref a/\y=.ref b/\SqT K H a xs/\SqT K H b ys/\xs≠[]/\xs.length+ys.length<=AH/\
 (ys=[]->Q (.ref a) H)/\(ys≠[]->∀p,H p=none->Q (.ref p) (upd H p (.tup<|xs++ys)))
theorem Vals.nil_iff{xs:List V}{us:List BA}(r:Vals xs us):us=[]↔xs=[]:=by
 cases r with
 |nil=>simp
 |cons _ _=>simp
theorem aIP:OpR X (Af .Add) (aNo X.K):=by intro pins s σ H x y v u Q I rx ry h;obtain⟨a,b,xs,ys,rfl,rfl,ha,hb,hx,hz,q1,q2⟩:=h;cases rx;cases ry;obtain⟨its,r1,p1,_⟩:=I.tuple ha;obtain⟨its2,r2,p2,_⟩:=I.tuple hb;refine HT.cat_tup p1 p2 (λz=>hx<|r1.nil_iff.mp z) (λz=>⟨.ref a,H,I,rfl,q1<|r2.nil_iff.mp z⟩) (λz=> ?_) (by rw[<-r1.length,<-r2.length];exact hz);refine⟨.ref s.heap.objs.size,_,I.laid (t':=s.toks) (o:=.tup<|xs++ys) (λb ob q=>aC _ q) (aO _) ?_,rfl,q2 (λw=>z<|r2.nil_iff.mpr w) _ (I.hok.fresh<|aO _)⟩;exact⟨by rw[aU];exact hz,_,r1.append r2,IsTupD.new _ _⟩
noncomputable def ixN(n:Nat)(i:Int):Option Nat:=if 0<=i then(if i<n then some i.toNat else none) else if -(n:Int)<=i then some (i+n).toNat else none
noncomputable def atI{α:Type}(xs:List α)(i:Int):Option α:=(ixN xs.length i).bind λj=>xs[j]?
theorem aDt{n:Nat}{i:Int}{j:Nat}(h:ixN n i=some j):seqIndex? i n=some j/\j<n/\ -(n:Int)<=i/\i<n:=by
 unfold ixN at h
 by_cases h0:0<=i
 ·rw[if_pos h0] at h
  by_cases h1:i<n
  ·rw[if_pos h1] at h;have e:i.toNat=j:=cC.inj h;exact⟨by rw[seqIndex_of h0 h1,e],by omega,by omega,h1⟩
  ·rw[if_neg h1] at h;cases h
 ·rw[if_neg h0] at h
  by_cases h1: -(n:Int)<=i
  ·rw[if_pos h1] at h;have e:(i+n).toNat=j:=cC.inj h;exact⟨by rw[seqIndex_neg (by omega) h1,e],by omega,h1,by omega⟩
  ·rw[if_neg h1] at h;cases h
theorem yM{α:Type}{xs:List α}{i:Int}{v:α}(h:atI xs i=some v):∃j,seqIndex? i xs.length=some j/\xs[j]? =some v/\j<xs.length/\ -(xs.length:Int)<=i/\i<xs.length:=by
 unfold atI at h;cases e:ixN xs.length i with
 |none=>rw[e] at h;cases h
 |some j=>rw[e] at h;obtain⟨h1,h2,h3,h4⟩:=aDt e;exact⟨j,h1,h,h2,h3,h4⟩
theorem yJ{α:Type}{xs:List α}{j:Nat}{v:α}(h:xs[j]? =some v):atI xs (j:Int)=some v:=by
 have hj:j<xs.length:=(bF.mp h).1
 have e:ixN xs.length (j:Int)=some j:=by unfold ixN;rw[if_pos<|by omega,if_pos<|by omega];simp
 unfold atI;rw[e];exact h
def jW(b:Expr):Prop:=∀o i,subscripted b false o i=operate [o,i] (getItem o i)
def IxR(X:Cx)(r:R2):Prop:=
 ∀ (value slice:Expr) (pins:List (BC×BF)) (s:BB) (σ:St) (H:Hp) (x y:V) (v u:BA) (Q:VK),Inv X pins σ H s->RelV x v->RelV y u->r x y H Q->
  subscripted slice false v u=operate [v,u] (getItem v u)->AE (AF X.prog X.w) X.A (subscriptTail value slice v u) (EP X pins σ Q) X.xe s
def MtR(X:Cx)(id:String)(r:V->List V->Hp->VK->Prop):Prop:=
 ∀ (pins:List (BC×BF)) (s:BB) (σ:St) (H:Hp) (x:V) (xs:List V) (v:BA) (us:List BA) (Q:VK),Inv X pins σ H s->RelV x v->Vals xs us->r x xs H Q->
  AE (AF X.prog X.w) X.A (call (.builtin id) (v::us)) (EP X pins σ Q) X.xe s
section
variable {X:Cx}{a b:Expr}{ta tb:TE}{pos:Pos}
theorem aBN{r:R2}(hr:IxR X r)(ha:PE X a ta)(hb:PE X b tb)(hs:jW b):PE X (.Subscript a b pos) (tOp r ta tb):=by intro pins s σ H Q I h;exact Subscript_ (aMJ ha hb I h λv u s2 x y H2 I2 rx ry q=>hr a b pins s2 σ H2 x y v u Q I2 rx ry q<|hs _ _)
noncomputable def rIxL(K:aA):R2:=λx y H Q=>∃p xs i v,x=.ref p/\y=.int i/\SqL K H p xs/\atI xs i=some v/\Q v H
noncomputable def rIxT(K:aA):R2:=λx y H Q=>∃p xs i v,x=.ref p/\y=.int i/\SqT K H p xs/\atI xs i=some v/\Q v H
noncomputable def rIxS:R2:=λx y H Q=>∃z i c,x=.str z/\y=.int i/\z.length<=AH/\atI z.cps.toList i=some c/\Q (.str ⟨#[c]⟩) H
theorem yO:IxR X (rIxL X.K):=by
 intro value slice pins s σ H x y v u Q I rx ry h hs;obtain⟨p,xs,i,z,rfl,rfl,hq,he,q⟩:=h;cases rx;obtain⟨t,rfl⟩:=ry;obtain⟨its,r,pl,hz⟩:=I.list hq;obtain⟨j,h1,h2,h3,h4,h5⟩:=yM he;obtain⟨w,ew,rw'⟩:=r.get h2;have hl:=r.length;have hn:=rH;have fin:EP X pins σ Q w s:=⟨z,H,I,rw',q⟩
 by_cases h0:0<=i
 ·have hj:i.toNat=j:=by rw[seqIndex_of h0 h5] at h1;exact cC.inj h1
  exact item_listR pl.isList h0 (by omega) (by rw[hj];simpa using ew) fin hs
 ·have hj:(i+(its.toArray.size:Int)).toNat=j:=by rw[seqIndex_neg (by omega) h4] at h1;rw[aI,<-hl];exact cC.inj h1
  exact subscriptTail_builtinR (x:=w) pl.isList.typeIs slot_list_getitem.lookup
   (wpAny_getItem_list_neg (Q:=λr s'=>r=w/\EP X pins σ Q r s') pl.isList (by omega) (by rw[aI]<;>omega) (by omega) (by rw[hj];simpa using ew) ⟨rfl,fin⟩) hs
theorem aKV:IxR X (rIxT X.K):=by
 intro value slice pins s σ H x y v u Q I rx ry h hs;obtain⟨p,xs,i,z,rfl,rfl,hq,he,q⟩:=h;cases rx;obtain⟨t,rfl⟩:=ry;obtain⟨its,r,pl,hz⟩:=I.tuple hq;obtain⟨j,h1,h2,h3,h4,h5⟩:=yM he;obtain⟨w,ew,rw'⟩:=r.get h2;have hl:=r.length;have hn:=rH;have fin:EP X pins σ Q w s:=⟨z,H,I,rw',q⟩
 exact subscriptTail_builtinR (x:=w) pl.typeIs slot_tuple_getitem.lookup
  (getItem_tuple (j:=j) (Q:=λr s'=>r=w/\EP X pins σ Q r s') pl (by omega) (by omega) (by rw[aI,<-hl];exact h1) (by simpa using ew) ⟨rfl,fin⟩) hs
theorem aKN:IxR X rIxS:=by
 intro value slice pins s σ H x y v u Q I rx ry h hs;obtain⟨z,i,c,rfl,rfl,hz,he,q⟩:=h;obtain⟨t,rfl⟩:=rx;obtain⟨t',rfl⟩:=ry;obtain⟨j,h1,h2,h3,h4,h5⟩:=yM he;have hl:z.cps.toList.length=z.length:=by simp[Str.length]
 rw[hl] at h1 h4 h5;have hn:=rH
 exact tail_any (Aq s z t) slot_str_getitem.lookup (getItem_str (c:=c) (by
  have e1:decide (i< -(2^63:Int))=false:=decide_eq_false (by omega);have e2:decide (i>=2^63)=false:=decide_eq_false<|by omega
  rw[e1,e2,Bool.or_false]) (by rw[h1];simpa using h2) ⟨.str ⟨#[c]⟩,H,I.tok _,⟨_,rfl⟩,q⟩) hs
theorem aBx(its:List BA)(n j:Nat)(u:BA):Obj.mapSeq (·.setIfInBounds j u) {cls:=.type "list",data:=.seq its.toArray n}={cls:=.type "list",data:=.seq (its.set j u).toArray n}:=by simp[Obj.mapSeq]
theorem Inv.lst{pins:List (BC×BF)}{σ:St}{H:Hp}{s:BB}{p:BC}{xs:List V}(I:Inv X pins σ H s)(h:H p=some (.lst xs)):
  ∃ (its:List BA) (n:Nat),Vals xs its/\s.heap.get? p=some {cls:=.type "list",data:=.seq its.toArray n}/\xs.length<=AH:=by
 obtain⟨z,its,n,r,e⟩:=I.hok p _ h;exact⟨its,n,r,e,z⟩
theorem Inv.lstUpd{pins:List (BC×BF)}{σ:St}{H:Hp}{s:BB}{p:BC}{xs ys:List V}{its its':List BA}{n n':Nat}{f:BF->BF}(I:Inv X pins σ H s)(h:H p=some (.lst xs))
  (ho:s.heap.get? p=some {cls:=.type "list",data:=.seq its.toArray n}) (hf:f {cls:=.type "list",data:=.seq its.toArray n}={cls:=.type "list",data:=.seq its'.toArray n'}) (r:Vals ys its') (hz:ys.length<=AH) (t:Nat):
  Inv X pins σ (upd H p<|.lst ys) {s with heap:=s.heap.update p f,toks:=t}:=by
 have e:(s.heap.update p f).get? p=some {cls:=.type "list",data:=.seq its'.toArray n'}:=by rw[cZ f ho (by rw[hf]<;>rfl),hf]
 refine I.write (x:=p) (e:=p) (by rw[h];trivial) (.inl rfl) (λb u hb q=>(cV _ _<|Ne.symm hb).trans q) ⟨_,e⟩ ?_;exact⟨hz,its',n',r,e⟩
def aNi:V->V->V->Hp->(Hp->Prop)->Prop:=λo i v H Q=>∃p xs k j,o=.ref p/\i=.int k/\H p=some (.lst xs)/\ixN xs.length k=some j/\Q (upd H p (.lst<|xs.set j v))
theorem aFl:aOA X aNi:=by
 intro pins s σ H o i v ov iv u Q I ro ri rv h;obtain⟨p,xs,k,j,rfl,rfl,hp,hj,q⟩:=h;cases ro;obtain⟨t,rfl⟩:=ri;obtain⟨its,n,r,ho,hz⟩:=I.lst hp;obtain⟨h1,h2,h3,h4⟩:=aDt hj;have hl:=r.length;have hn:=rH
 have I':Inv X pins σ (upd H p (.lst<|xs.set j v)) {s with heap:=s.heap.update p (Obj.mapSeq (·.setIfInBounds j u))}:=
  I.lstUpd hp ho (aBx its n j u) (r.set rv j) (by rw[aJF];exact hz) s.toks
 by_cases h0:0<=k
 ·have hk:k.toNat=j:=by rw[seqIndex_of h0 h4] at h1;exact cC.inj h1
  exact PySem.W.ki_setAt ho h0 (by omega) (by rw[aI,<-hl];exact h4) (by rw[hk];exact⟨_,I',q⟩)
 ·have hk:(k+(its.toArray.size:Int)).toNat=j:=by rw[seqIndex_neg (by omega) h3] at h1;rw[aI,<-hl];exact cC.inj h1
  exact PySem.W.ki_setBack ho (by omega) (by rw[aI,<-hl];exact h3) (by omega) (by rw[hk];exact⟨_,I',q⟩)
theorem zJ(lo hi:Option Int)(n:Nat):(Aa lo hi none n).1=((HT.sIx n 0 lo:Nat):Int)/\(Aa lo hi none n).2.1=((HT.sIx n n hi:Nat):Int)/\(Aa lo hi none n).2.2=1:=by
 refine⟨?_, ?_,rfl⟩
 ·cases lo with
  |none=>simp[Aa,HT.sIx]
  |some i=>
   simp only[Aa,HT.sIx,aGk,show(1:Int)>0 by decide,if_true]
   by_cases h:i<0
   ·simp only[h,if_true]<;>omega
   ·simp only[h,if_false]<;>omega
 ·cases hi with
  |none=>simp[Aa,HT.sIx]
  |some i=>
   simp only[Aa,HT.sIx,aGk,show(1:Int)>0 by decide,if_true]
   by_cases h:i<0
   ·simp only[h,if_true]<;>omega
   ·simp only[h,if_false]<;>omega
theorem vR(its:List BA)(lo hi:Option Int):slicePick its.toArray lo hi none=((its.drop<|HT.sIx its.length 0 lo).take<|HT.sIx its.length its.length hi-HT.sIx its.length 0 lo).toArray:=by obtain⟨h1,h2,h3⟩:=zJ lo hi its.toArray.size;unfold slicePick;rw[h1,h2,h3];simp only[sliceRange_one,pick_run,aI]<;>rfl
def rSlL(K:aA):V->Option Int->Option Int->Hp->VK->Prop:=λx lo hi H Q=>∃a xs,x=.ref a/\SqL K H a xs/\∀p,H p=none->Q (.ref p) (upd H p (.lst<|aHy xs lo hi))
theorem aIR:SlR X (rSlL X.K):=by intro pins s σ H x v vl vu lo hi sl Q I rx hs pl pu h;obtain⟨a,xs,rfl,hx,q⟩:=h;cases rx;obtain⟨its,r,ht,hz⟩:=I.list hx;have hlen:=r.length;refine⟨"list",_,slot_list_getitem.lookup,ht.isList.typeIs, ?_⟩;refine wpAny_getItem_list_slice ht.isList hs pl pu .none (by simp) ?_ (by rw[aI]<;>omega);rw[vR,<-hlen];refine⟨.ref s.heap.objs.size,_,I.laid (t':=s.toks) (o:=.lst<|aHy xs lo hi) (λb ob q=>aC _ q) (aO _) ?_,rfl,q _ (I.hok.fresh<|aO _)⟩;exact⟨aQ (aAa xs lo hi) hz,_,0,(r.drop<|HT.sIx xs.length 0 lo).take<|HT.sIx xs.length xs.length hi-HT.sIx xs.length 0 lo,aY _ rfl⟩
noncomputable def aEQ:V->Bool
 |.non=>true
 |.bl _=>true
 |.int _=>true
 |.str _=>true
 |_=>false
noncomputable def eqV:V->V->Bool
 |.non,.non=>true
 |.bl a,.bl b=>a==b
 |.bl a,.int b=>(if a then 1 else 0)==b
 |.int a,.bl b=>a==(if b then 1 else 0)
 |.int a,.int b=>a==b
 |.str a,.str b=>a==b
 |_,_=>false
theorem yU{A:BD}{s:BB}{y x:V}{u v:BA}(ry:RelV y u)(rx:RelV x v)(fy:aEQ y=true)(fx:aEQ x=true):SeqAt.EqAt A s u v (eqV y x):=by
 cases y with
 |non=>
  cases ry;cases x with
  |non=>cases rx;exact SeqAt.EqAt.same _
  |bl b=>cases rx;exact SeqAt.EqAt.none_bool b
  |int b=>obtain⟨t,rfl⟩:=rx;exact SeqAt.EqAt.none_int b t
  |str b=>obtain⟨t,rfl⟩:=rx;exact SeqAt.EqAt.none_str b t
  |_=>exact absurd (show false=true from fx) bC
 |bl a=>
  cases ry;cases x with
  |non=>cases rx;exact SeqAt.EqAt.bool_none a
  |bl b=>cases rx;exact SeqAt.EqAt.bool_bool a b
  |int b=>obtain⟨t,rfl⟩:=rx;exact SeqAt.EqAt.bool_int a b t
  |str b=>obtain⟨t,rfl⟩:=rx;exact SeqAt.EqAt.bool_str a b t
  |_=>exact absurd (show false=true from fx) bC
 |int a=>
  obtain⟨t',rfl⟩:=ry;cases x with
  |non=>cases rx;exact SeqAt.EqAt.int_none a t'
  |bl b=>cases rx;exact SeqAt.EqAt.int_bool a t' b
  |int b=>obtain⟨t,rfl⟩:=rx;exact SeqAt.EqAt.int_int a t' b t
  |str b=>obtain⟨t,rfl⟩:=rx;exact SeqAt.EqAt.int_str a t' b t
  |_=>exact absurd (show false=true from fx) bC
 |str a=>
  obtain⟨t',rfl⟩:=ry;cases x with
  |non=>cases rx;exact SeqAt.EqAt.str_none a t'
  |bl b=>cases rx;exact SeqAt.EqAt.str_bool a t' b
  |int b=>obtain⟨t,rfl⟩:=rx;exact SeqAt.EqAt.str_int a t' b t
  |str b=>obtain⟨t,rfl⟩:=rx;exact SeqAt.EqAt.str_str a t' b t
  |_=>exact absurd (show false=true from fx) bC
 |_=>exact absurd (show false=true from fy) bC
theorem lV:jK X (.builtin "len") (λxs H Q=>∃p ys,xs=[.ref p]/\(SqL X.K H p ys\/SqT X.K H p ys)/\Q (.int ys.length) H):=by
 intro pins s σ H xs us Q I r h;obtain⟨p,ys,rfl,hq,q⟩:=h;obtain⟨u,rfl,rx⟩:=mG r;cases rx;have hn:=rH
 rcases hq with hq|hq
 ·obtain⟨its,r',pl,hz⟩:=I.list hq;have hlen:=r'.length;exact Calls.call_len_list pl.isList (by simp only[aI]<;>omega) ⟨.int ys.length,H,I.tok _,⟨s.toks+1,by rw[aI,hlen]⟩,q⟩
 ·obtain⟨its,r',pl,hz⟩:=I.tuple hq;have hlen:=r'.length;exact len_tuple pl (by simp only[aI]<;>omega) ⟨.int ys.length,H,I.tok _,⟨s.toks+1,by rw[aI,hlen]⟩,q⟩
theorem yW:jK X (.builtin "len") (λxs H Q=>∃z,xs=[.str z]/\z.length<=AH/\Q (.int z.length) H):=by intro pins s σ H xs us Q I r h;obtain⟨z,rfl,hz,q⟩:=h;obtain⟨u,rfl,t,rfl⟩:=mG r;have hn:=rH;exact len_str (by omega) ⟨.int z.length,H,I.tok _,⟨_,rfl⟩,q⟩
theorem vS:jK X (.type "tuple") (λxs H Q=>∃p ys,xs=[.ref p]/\((SqL X.K H p ys/\∀l,H l=none->Q (.ref l) (upd H l<|.tup ys))\/(SqT X.K H p ys/\Q (.ref p) H))):=by
 intro pins s σ H xs us Q I r h;obtain⟨p,ys,rfl,h⟩:=h;obtain⟨u,rfl,rx⟩:=mG r;cases rx
 rcases h with⟨hq,q⟩|⟨hq,q⟩
 ·obtain⟨its,r',pl,hz⟩:=I.list hq;have hlen:=r'.length;refine call_tuple_list pl.isList (λh' kp=> ?_) (by simp only[aI]<;>omega);have I1:Inv X pins σ H {s with heap:=h'}:=I.kept (t':=s.toks) kp
  have I2:Inv X pins σ (upd H h'.objs.size<|.tup ys) {s with heap:=h'.push {cls:=.type "tuple",data:=.seq its.toArray}}:=
   I1.laid (t':=s.toks) (λb o e=>aC _ e) (aO _) (show ObjOk X.prog X.w _ _ _ (.tup ys) from⟨hz,its,r',IsTupD.new _ _⟩)
  exact⟨.ref h'.objs.size,_,I2,rfl,q _ (I1.hok.fresh<|aO _)⟩
 ·obtain⟨its,r',pl,hz⟩:=I.tuple hq;exact call_tuple_same pl ⟨.ref p,H,I,rfl,q⟩
def tyV(K:aA)(T:String)(x:V)(H:Hp):Prop:=match x with
 |.str _=>T="str"
 |.int _=>T="int"
 |.ref p=>(T="list"/\∃xs,SqL K H p xs)\/(T="tuple"/\∃o,K.lookup p=some o/\o.cls=.type "tuple"/\o.dict=none)\/
   (T="dict"/\((∃kvs,H p=some (.dK kvs))\/∃kvs,H p=some (.dT kvs)))\/(T="set"/\∃S n,H p=some (.set S n))
 |_=>False
theorem aLT{pins:List (BC×BF)}{σ:St}{H:Hp}{s:BB}{T:String}{x:V}{v:BA}(I:Inv X pins σ H s)(r:RelV x v)(ty:tyV X.K T x H):
  s.TypeIs v T/\∀a,v=.ref a->∃ob,s.heap.get? a=some ob/\ob.dict=none:=by
 cases x with
 |str z=>obtain⟨t,rfl⟩:=r;cases(show T="str" from ty);exact⟨Aq s z t,λ_ e=>nomatch e⟩
 |int i=>obtain⟨t,rfl⟩:=r;cases(show T="int" from ty);exact⟨typeIs_int s i t,λ_ e=>nomatch e⟩
 |ref p=>
  cases r
  rcases ty with⟨rfl,xs,hq⟩|⟨rfl,o,hk,hc,hd⟩|⟨rfl,hk⟩|⟨rfl,S,n,hk⟩
  ·obtain⟨its,_,pl,_⟩:=I.list hq;refine⟨pl.isList.typeIs,λa e=> ?_⟩;cases e;obtain⟨o,n,e,c,hd,_⟩:=pl;exact⟨o,e,hd⟩
  ·refine⟨⟨o,I.kIn p o hk,hc⟩,λa e=> ?_⟩;cases e;exact⟨o,I.kIn _ o hk,hd⟩
  ·have z:∃o,s.heap.get? p=some o/\o.ExactDict:=by
    rcases hk with⟨kvs,hk⟩|⟨kvs,hk⟩
    ·obtain⟨_,_,_,_,o,_,_,e,ex,_⟩:=I.hok p _ hk;exact⟨o,e,ex⟩
    ·obtain⟨_,_,_,_,o,_,_,e,ex,_⟩:=I.hok p _ hk;exact⟨o,e,ex⟩
   obtain⟨o,e,ex⟩:=z;refine⟨⟨o,e,ex.1⟩,λa e2=> ?_⟩;cases e2;exact⟨o,e,ex.2.1⟩
  ·obtain⟨o,_,_,_,e,ex,_⟩:=I.hok p _ hk;refine⟨⟨o,e,ex.1⟩,λa e2=> ?_⟩;cases e2;exact⟨o,e,ex.2.1⟩
 |_=>exact False.elim ty
noncomputable def tBM(K:aA)(T:String)(r:V->List V->Hp->VK->Prop)(to:TE)(t:TA):TE:=λσ H Q=>to σ H λx H1=>tyV K T x H1/\t σ H1 λxs H2=>r x xs H2 Q
variable {o e:Expr}{es:List Expr}{to:TE}{t:TA}{name:Str}{apos cpos:Pos}{T id:String}{r:V->List V->Hp->VK->Prop}
theorem uR(pa:PlainAttrs T)(slot:Slot T name id)(hty:typeOf (.builtin id)=pure (.type "method_descriptor"))(hm:MtR X id r)(ho:PE X o to)(ha:PA X (e::es) t)
  (hbase:Ao o name X.env (eval o X.env)=eval o X.env:=by rfl)
  (hfew:((AX cpos (AB (e::es) X.env)).all (fun x=> !x.1) && (backToKw cpos (keywordEach [] X.env)).all (fun x=>x.1.isSome)
  &&decide ((e::es).length+([]:List Keyword).length+(if([]:List Keyword).isEmpty then 0 else 1)<30))=true:=by rfl)
  (hline:(apos.endLine==cpos.line)=true:=by rfl) (hs:AB (e::es) X.env=(false,eval e X.env)::AB es X.env:=by rfl) (hplain:(AX cpos<|AB es X.env).any (·.1)=false:=by rfl):
  PE X (.Call (.Attribute o name apos) (e::es) [] cpos) (tBM X.K T r to t):=by
 intro pins s σ H Q I h;refine wpAny_Call_method_late hbase hfew hline rfl<|thn (ho pins s σ H _ I h) λv s1 ⟨x,H1,I1,r1,ty,q1⟩=> ?_;obtain⟨h1,h2⟩:=aLT I1 r1 ty;refine⟨T,id,pa,slot,hty,h1,h2, ?_⟩;have hA:=ha cpos pins s1 σ H1 _ I1 q1;rw[hs] at hA ⊢;refine Calls.callWith_builtin (by show(false||(AX cpos<|AB es X.env).any (·.1))=false;rw[hplain]<;>rfl)<|Calls.evalArgs_plain ?_;exact thn hA λus s2 ⟨vs,H2,I2,r2,q2⟩=>hm pins s2 σ H2 x vs v us Q I2 r1 r2 q2
/- xs.append(e),list.index on a module's tuple .. are MtR facts of 06m -/
end
def MtM(X:Cx)(id:String)(r:V->List V->Hp->VK->Prop):Prop:=
 ∀ (pins:List (BC×BF)) (s:BB) (σ:St) (H:Hp) (x:V) (xs:List V) (v:BA) (us:List BA) (Q:VK),Inv X pins σ H s->RelV x v->Vals xs us->r x xs H Q->
  AE (AF X.prog X.w) X.A (call (.builtin id) (v::us)) (EP X pins σ Q) X.xe s
theorem Vals.one:∀ {x:V}{us:List BA},Vals [x] us->∃u,us=[u]/\RelV x u
 |_,_,.cons r .nil=>⟨_,rfl,r⟩
theorem Vals.rep{xs:List V}{us:List BA}(h:Vals xs us):∀k:Nat,Vals (bL k xs).flatten (bL k us).flatten
 |0=>.nil
 |k+1=>by rw[eO,eO,fZ,fZ];exact Vals.append h<|Vals.rep h k
theorem wL(its:List BA):∀ (k:Nat) (acc:List BA),
  aHo (λx1 x2=>x1++x2) acc.toArray (bL k its.toArray)=(acc++(bL k its).flatten).toArray
 |0,acc=>by simp
 |k+1,acc=>by
  have e:acc.toArray++its.toArray=(acc++its).toArray:=by simp
  have e2:(acc++its)++(bL k its).flatten=acc++(bL (k+1) its).flatten:=by rw[eO,fZ,lI]
  rw[<-e2,<-wL its k (acc++its),<-e,eO,aJG]
variable {pins:List (BC×BF)}{σ:St}{H:Hp}{s:BB}{l b:BC}{xs ys zs:List V}
theorem Inv.lset{its its':List BA}{n:Nat}{f:Array BA->Array BA}{t':Nat}(I:Inv X pins σ H s)(hH:H l=some (.lst xs))
  (e:s.heap.get? l=some {cls:=.type "list",data:=.seq its.toArray n}) (hf:f its.toArray=its'.toArray) (hv:Vals ys its') (hz:ys.length<=AH):
  Inv X pins σ (upd H l<|.lst ys) {s with heap:=s.heap.update l<|Obj.mapSeq f,toks:=t'}:=by
 have q:=PySem.IsL.update e f;rw[hf] at q;refine I.write (x:=l) (e:=l) (by rw[hH];exact trivial) (.inl rfl) (λb' u hb hu=>(cV s.heap (Obj.mapSeq f)<|Ne.symm hb).trans hu) ⟨_,q⟩ ?_;exact⟨hz,its',_,hv,q⟩
theorem Inv.lnew{its:List BA}{t':Nat}(I:Inv X pins σ H s)(hv:Vals ys its)(hz:ys.length<=AH):
  Inv X pins σ (upd H s.heap.objs.size<|.lst ys) {s with heap:=s.heap.push {cls:=.type "list",data:=.seq its.toArray},toks:=t'}:=
 I.laid (λ_ _ q=>aC _ q) (aO _) ⟨hz,its,0,hv,aY _ rfl⟩
theorem Inv.fresh(I:Inv X pins σ H s):H s.heap.objs.size=none:=I.hok.fresh<|aO _
theorem Inv.lstM(I:Inv X pins σ H s)(hH:H l=some (.lst xs)):xs.length<=AH/\∃ (its:List BA) (n:Nat),Vals xs its/\xs.length=its.length/\s.heap.get? l=some {cls:=.type "list",data:=.seq its.toArray n}:=by obtain⟨z,its,n,r,e⟩:=I.hok l _ hH;exact⟨z,its,n,r,r.length,e⟩
theorem aFk{n:Nat}(h:n<=AH):Builtin.List.listTooLong n=false:=by unfold Builtin.List.listTooLong;exact decide_eq_false<|by omega
def aDD:V->List V->Hp->VK->Prop:=λx vs H Q=>∃l xs y,x=.ref l/\vs=[y]/\H l=some (.lst xs)/\xs.length<AH/\Q .non (upd H l (.lst<|xs++[y]))
theorem aEA:MtM X "list.append" aDD:=by intro pins s σ H x vs v us Q I rx rv h;obtain⟨l,xs,y,rfl,rfl,hH,hz,q⟩:=h;cases rx;obtain⟨u,rfl,ru⟩:=rv.one;obtain⟨z,its,n,r,hl,e⟩:=I.lstM hH;refine Ar F.slot_list_append ⟨_,e,rfl⟩ F.entry_list_append (F.args_list_append_2 _ _) (PySem.list_append l its.toArray n u<|by rw[aI];omega) ⟨e, ?_⟩;refine⟨.non,_,I.lset (its':=its++[u]) hH e (by simp) (r.append<|.cons ru .nil) ?_,rfl,q⟩;rw[aU,List.length_singleton];omega
noncomputable def rCat:R2:=λx y H Q=>∃l b xs zs,x=.ref l/\y=.ref b/\H l=some (.lst xs)/\H b=some (.lst zs)/\xs.length+zs.length<=AH/\∀p,H p=none->Q (.ref p) (upd H p (.lst<|xs++zs))
theorem aLe:OpR X (Af .Add) rCat:=by
 intro pins s σ H x y v u Q I rx ry h;obtain⟨l,b,xs,zs,rfl,rfl,hH,hB,hz,q⟩:=h;cases rx;cases ry;obtain⟨z,its,n,r,hl,e⟩:=I.lstM hH;obtain⟨z2,its2,n2,r2,hl2,e2⟩:=I.lstM hB;refine PySem.P.add_list e e2 ?_ (by rw[aI,aI];omega);have ea:its.toArray++its2.toArray=(its++its2).toArray:=by simp
 rw[ea];exact⟨.ref _,_,I.lnew (t':=s.toks) (r.append r2) (by rw[aU];omega),rfl,q _ I.fresh⟩
noncomputable def rRep:R2:=λx y H Q=>∃l k xs,x=.ref l/\y=.int k/\H l=some (.lst xs)/\ -(2^63)<=k/\k<2^63/\xs.length*k.toNat<=AH/\
 ∀p,H p=none->Q (.ref p) (upd H p<|.lst (bL k.toNat xs).flatten)
theorem aJc{α:Type}(xs:List α)(k:Nat):(bL k xs).flatten.length=k*xs.length:=by
 induction k with
 |zero=>simp
 |succ k ih=>rw[eO,fZ,aU,ih,Nat.succ_mul,aOO]
theorem aLM:OpR X (Af .Mult) rRep:=by
 intro pins s σ H x y v u Q I rx ry h;obtain⟨l,k,xs,rfl,rfl,hH,h1,h2,hz,q⟩:=h;cases rx;obtain⟨t,rfl⟩:=ry;obtain⟨z,its,n,r,hl,e⟩:=I.lstM hH;have hlen:its.toArray.size*k.toNat<=AH:=by rw[aI,<-hl];exact hz
 have hcap:¬ its.toArray.size*k.toNat>(2^63-1) / 8:=by
  have:(AH:Nat)<=(2^63-1) / 8:=by decide
  omega
 have hfit:¬ (!Builtin.List.listFitsIndex k)=true:=by rw[fitsIndex_both h1 h2];exact bC
 have hlong:¬ Builtin.List.listTooLong (its.toArray.size*k.toNat)=true:=by rw[aFk hlen];exact bC
 have hnew:aHo (λx1 x2=>x1++x2) #[] (bL (if its.toArray.isEmpty=true then 0 else k.toNat) its.toArray)=(bL k.toNat its).flatten.toArray:=by
  have f0:∀m:Nat,aHo (λx1 x2=>x1++x2) #[] (bL m its.toArray)=(bL m its).flatten.toArray:=λm=>by have:=wL its m [];rw[vK] at this;exact this
  rw[f0];cases its with
  |nil=>simp
  |cons a r'=>rw[if_neg<|by simp]
 refine wpAny_binaryOp_repeat_ref (T:="list") (U:="int") (by decide) ⟨_,e,rfl⟩ (λs'=>typeIs_int s' k t) noFill_list_mul F.fills_int_mul F.slot_int_rmul repeat_list F.slot_int_index.lookup
  (Ar F.slot_int_rmul (typeIs_int s k t) F.entry_int_rmul (F.args_int_rmul_2 _ _) (int___rmul___int_list k t l its.toArray n)
   ⟨e,rfl,⟨_,e,rfl⟩,Ar F.slot_list_mul ⟨_,e,rfl⟩ F.entry_list_mul (F.args_list_mul_2 _ _) (AutoListH.list___mul___list_int_3 l its.toArray n k t hfit hcap hlong) ⟨e, ?_⟩⟩)
 rw[hnew];exact⟨.ref _,_,I.lnew (t':=s.toks) (r.rep k.toNat) (by rw[aJc,Nat.mul_comm];exact hz),rfl,q _ I.fresh⟩
section
variable {prog:AD}{w:AG}{A:BD}{E:BA->BB->Prop}{s:BB}
set_option maxRecDepth 100000 in
end
section
variable {κ:Type}[DecidableEq κ]
noncomputable def mM(kvs:List (κ×V))(k:κ):Option V:=(kvs.find? λkv=>decide<|kv.1=k).map (·.2)
noncomputable def aGp(kvs:List (κ×V))(k:κ)(v:V):List (κ×V):=
 if(kvs.any λkv=>decide<|kv.1=k)=true then kvs.map (λkv=>if kv.1=k then(kv.1,v) else kv) else kvs++[(k,v)]
theorem aAs{p:κ×V}{r:List (κ×V)}{k:κ}(e:p.1=k):mM (p::r) k=some p.2:=by simp[mM,gY,e]
theorem aAH{p:κ×V}{r:List (κ×V)}{k:κ}(e:¬ p.1=k):mM (p::r) k=mM r k:=by simp[mM,gY,e]
theorem aAi(kvs:List (κ×V))(k:κ)(v:V):(aGp kvs k v).length<=kvs.length+1:=by
 unfold aGp
 split
 ·rw[aD];omega
 ·rw[aU,bM,vL];omega
theorem RelO.getD{o:Option V}{u:Option BA}{d:V}{d':BA}(r:RelO o u)(rd:RelV d d'):RelV (o.getD d) (u.getD d'):=by
 cases o with
 |none=>cases u with
  |none=>exact rd
  |some _=>exact(show False from r).elim
 |some _=>cases u with
  |none=>exact(show False from r).elim
  |some _=>exact r
theorem KV.val{kvs:List (κ×V)}{vs:List (κ×BA)}(r:KV kvs vs)(k:κ):RelO (mM kvs k) (valueAt vs k):=by
 unfold KV at r
 induction r with
 |nil=>exact True.intro
 |@cons p q ps qs h t ih=>
  obtain⟨h1,h2⟩:=h
  by_cases e:p.1=k
  ·have e':q.1=k:=h1.symm.trans e;have b:valueAt (q::qs) k=some q.2:=by simp[valueAt,gY,e']
   rw[aAs e,b];exact h2
  ·have e':¬ q.1=k:=λz=>e (h1.trans z)
   have b:valueAt (q::qs) k=valueAt qs k:=by simp[valueAt,gY,e']
   rw[aAH e,b];exact ih
theorem KV.any{kvs:List (κ×V)}{vs:List (κ×BA)}(r:KV kvs vs)(k:κ):(kvs.any λkv=>decide<|kv.1=k)=vs.any λkv=>decide (kv.1=k):=by
 unfold KV at r
 induction r with
 |nil=>rfl
 |cons h t ih=>rw[qZ,qZ,ih,h.1]
theorem KV.repl{kvs:List (κ×V)}{vs:List (κ×BA)}(r:KV kvs vs)(k:κ){y:V}{u:BA}(ry:RelV y u):
  KV (kvs.map λkv=>if kv.1=k then(kv.1,y) else kv) (vs.map λkv=>if kv.1=k then(kv.1,u) else kv):=by
 unfold KV at r ⊢
 induction r with
 |nil=>exact .nil
 |@cons p q ps qs h t ih=>
  rw[bB,bB];refine .cons ?_ ih;obtain⟨h1,h2⟩:=h
  by_cases e:p.1=k
  ·rw[if_pos e,if_pos<|h1.symm.trans e];exact⟨h1,ry⟩
  ·rw[if_neg e,if_neg (λz=>e<|h1.trans z)];exact⟨h1,h2⟩
theorem KV.put{kvs:List (κ×V)}{vs:List (κ×BA)}(r:KV kvs vs)(k:κ){y:V}{u:BA}(ry:RelV y u):KV (aGp kvs k y) (stored vs k u):=by
 unfold aGp stored;rw[r.any k]
 by_cases e:(vs.any λkv=>decide<|kv.1=k)=true
 ·rw[if_pos e,if_pos e];exact r.repl k ry
 ·rw[if_neg e,if_neg e];exact Paired.snoc r ⟨rfl,ry⟩
end
theorem aHC{P:AD}{w:AG}{k:Key}{u:BA}(r:RelV (kV k) u):(dJ P w).is k u=true:=by
 cases k with
 |inl i=>obtain⟨t,e⟩:=(show ∃t,u=Value.int i t from r);subst e;exact aAe P w i t
 |inr x=>obtain⟨t,e⟩:=(show ∃t,u=Value.str x t from r);subst e;exact aAd P w x t
theorem wZ{P:AD}{w:AG}:∀ {ks:List Key}{us:List BA},Vals (ks.map kV) us->ItemsAre (dJ P w) ks us
 |[],_,r=>by rw[gJ] at r;cases r;exact .nil
 |k::ks,_,r=>by
  rw[bB] at r;cases r with
  |cons h t=>exact .cons (aHC h)<|wZ t
abbrev KT(H:Hp):List (List Key×V)->List (List Key×BC×BA)->Prop:=Paired λp q=>p.1=q.1/\H q.2.1=some (.tup<|p.1.map kV)/\RelV p.2 q.2.2
theorem KT.val{kvs:List (List Key×V)}{xs:List (List Key×BC×BA)}(r:KT H kvs xs)(k:List Key):RelO (mM kvs k) ((atKey xs k).map (·.2)):=by
 induction r with
 |nil=>exact True.intro
 |@cons p q ps qs h t ih=>
  obtain⟨h1,_,h2⟩:=h
  by_cases e:p.1=k
  ·have e':q.1=k:=h1.symm.trans e;have b:atKey (q::qs) k=some q.2:=by simp[atKey,gY,e']
   rw[aAs e,b];exact h2
  ·have e':¬ q.1=k:=λz=>e (h1.trans z)
   have b:atKey (q::qs) k=atKey qs k:=by simp[atKey,gY,e']
   rw[aAH e,b];exact ih
variable {P:AD}{w:AG}{h:BE}{a:BC}
theorem aKl{u:HO}(ok:HOk P w H h)(e:Rd H a u):ObjOk P w H h a u:=e.ok ok
theorem aHH{kvs:List (Key×V)}(ok:HOk P w H h)(e:Rd H a (.dK kvs)):kvs.length<=AH/\(a==Ai)=false/\∃vs,KV kvs vs/\h.DictOf (dJ P w) a vs:=
 show ObjOk P w H h a (.dK kvs) from aKl ok e
theorem aNM{kvs:List (Key×V)}(ok:HOk P w H h)(e:H a=some (.dK kvs)):kvs.length<=AH/\(a==Ai)=false/\∃vs,KV kvs vs/\h.DictOf (dJ P w) a vs:=aHH ok<|.inl e
theorem aBP{ks:List Key}(ok:HOk P w H h)(e:H a=some (.tup<|ks.map kV)):(tupleKind<|dJ P w).is h ks a:=by obtain⟨_,its,r,o,h1,h2,⟨n,h3⟩,_⟩:=(show ObjOk P w H h a (.tup<|ks.map kV) from ok a _ e);exact⟨o,its.toArray,n,h1,h2,h3,by simpa using wZ r⟩
theorem aJV{kvs:List (List Key×V)}(ok:HOk P w H h)(e:Rd H a (.dT kvs)):kvs.length<=AH/\(a==Ai)=false/\
  ∃xs,KT H kvs xs/\h.DictOfH (tupleKind<|dJ P w) a xs:=by
 obtain⟨z,y,xs,r,o,es,ep,h1,h2,h3,h4,h5⟩:=(show ObjOk P w H h a (.dT kvs) from aKl ok e);refine⟨z,y,xs,r,o,es,ep,h1,h2,h3,h4,λx hx=> ?_,h5⟩
 have all:∀ {l:List (List Key×V)}{m:List (List Key×BC×BA)},KT H l m->∀x∈m,(tupleKind<|dJ P w).is h x.1 x.2.1:=by
  intro l m q
  induction q with
  |nil=>intro x hx;exact nomatch hx
  |@cons p q ps qs hq t ih=>
   intro x hx
   rcases aG.mp hx with e|hx
   ·subst e;exact aBP ok (by rw[<-hq.1];exact hq.2.1)
   ·exact ih x hx
 exact all r x hx
def DGet(H:Hp)(a:BC)(y:V)(r:Option V):Prop:=
 (∃kvs k,Rd H a (.dK kvs)/\y=kV k/\r=mM kvs k)\/∃kvs k b,Rd H a (.dT kvs)/\y=.ref b/\H b=some (.tup<|k.map kV)/\r=mM kvs k
theorem DGet.k{H:Hp}{a:BC}{kvs:List (Key×V)}{k:Key}(e:H a=some (.dK kvs)):DGet H a (kV k) (mM kvs k):=.inl ⟨kvs,k,.inl e,rfl,rfl⟩
variable {y v:V}{u r:BA}{o:Option V}{A:BD}{E:BA->BB->Prop}
theorem Inv.big(I:Inv X pins σ H s):Ai<s.heap.objs.size:=by have h:AI<s.heap.objs.size:=(I.mod.glob.keeps I.bk).lt;exact Nat.lt_trans (by decide) h
theorem aJj{h':BE}{t':Nat}{ob:HO}(I:Inv X pins σ H s)(mu:Mut (H a))(hs:Heap.SameBut a s.heap h')(he:∃q,h'.get? a=some q)(new:ObjOk X.prog X.w (upd H a ob) h' a ob):
  Inv X pins σ (upd H a ob) {s with heap:=h',toks:=t'}:=
 I.write (x:=a) (e:=a) mu (.inl rfl) (λb q hb z=>(hs.2 b hb).trans z) he new
theorem aKQ{H':Hp}{h':BE}{kvs:List (Key×V)}{vs:List (Key×BA)}(z:kvs.length<=AH)(hd:(a==Ai)=false)(rel:KV kvs vs)(dd:h'.DictOf (dJ P w) a vs):
  ObjOk P w H' h' a (.dK kvs):=⟨z,hd,vs,rel,dd⟩
theorem aFo(h:BE)(hb:Ai<h.objs.size):ObjOk P w H (h.push {cls:=.type "dict",data:=.dict #[]}) h.objs.size (.dK []):=
 ⟨bU _,beq_eq_false_iff_ne.mpr (Ne.symm<|bG hb),[],.nil,Heap.DictOf.new h⟩
noncomputable def yR:List (TE×TE)->St->Hp->(List (V×V)->Hp->Prop)->Prop
 |[],_,H,Q=>Q [] H
 |(tk,tv)::r,σ,H,Q=>tk σ H λx H1=>tv σ H1 λy H2=>yR r σ H2 λps H3=>Q ((x,y)::ps) H3
abbrev VV:List (V×V)->List (BA×BA)->Prop:=Paired λp q=>RelV p.1 q.1/\RelV p.2 q.2
def PPs(X:Cx)(pos:Pos)(keys:List (Option Expr))(values:List Expr)(trs:List (TE×TE)):Prop:=
 ∀ (pins:List (BC×BF)) (s:BB) (σ:St) (H:Hp) (Q:List (V×V)->Hp->Prop),Inv X pins σ H s->yR trs σ H Q->
  AE (AF X.prog X.w) X.A (evalPairs<|pairTrees keys values X.env pos) (λvs s'=>∃ps H',Inv X pins σ H' s'/\VV ps vs/\Q ps H') X.xe s
theorem aHY:PPs X pos [] [] []:=λpins s σ H Q I h=>pairTrees_nil_walk ⟨[],H,I,.nil,h⟩
theorem gL{k v:Expr}{ks:List (Option Expr)}{vs:List Expr}{tk tv:TE}{trs:List (TE×TE)}(hk:PE X k tk)(hv:PE X v tv)(hr:PPs X pos ks vs trs):
  PPs X pos (some k::ks) (v::vs) ((tk,tv)::trs):=λpins s σ H Q I h=>
 pairTrees_cons_walk (thn (hk pins s σ H _ I h) λu s1 ⟨x,H1,I1,rx,q1⟩=>thn (hv pins s1 σ H1 _ I1 q1) λw2 s2 ⟨y,H2,I2,ry,q2⟩=>thn (hr pins s2 σ H2 _ I2 q2) λws s3 ⟨ps,H3,I3,rel,q3⟩=>⟨(x,y)::ps,H3,I3,.cons ⟨rx,ry⟩ rel,q3⟩)
noncomputable def mY(kvs more:List (Key×V)):List (Key×V):=more.foldl (λacc kv=>aGp acc kv.1 kv.2) kvs
theorem KV.merge:∀ {more:List (Key×V)}{rs:List (Key×BA)}{kvs:List (Key×V)}{vs:List (Key×BA)},KV more rs->KV kvs vs->KV (mY kvs more) (merged vs rs):=by
 intro more rs kvs vs r;unfold KV at r
 induction r generalizing kvs vs with
 |nil=>intro q;exact q
 |@cons p q ps qs h t ih=>
  intro r0
  have e:KV (aGp kvs p.1 p.2) (stored vs q.1 q.2):=by have:=r0.put p.1 h.2;rw[<-h.1];exact this
  exact ih e
theorem oH:∀ (more kvs:List (Key×V)),(mY kvs more).length<=kvs.length+more.length
 |[],kvs=>by show kvs.length<=kvs.length+0;omega
 |p::r,kvs=>by have h1:=oH r<|aGp kvs p.1 p.2;have h2:=aAi kvs p.1 p.2;show(mY (aGp kvs p.1 p.2) r).length<=_;rw[bM];omega
theorem tX{P:AD}{w:AG}:∀ {kvs:List (Key×V)}{ws:List (BA×BA)},VV (kvs.map λkv=>(kV kv.1,kv.2)) ws->∃rs,Carries (dJ P w) ws rs/\KV kvs rs
 |[],_,r=>by rw[gJ] at r;cases r;exact⟨[],True.intro,.nil⟩
 |p::kvs,_,r=>by
  rw[bB] at r;cases r with
  |@cons a b as bs h t=>obtain⟨rs,c,q⟩:=tX (P:=P) (w:=w) t;obtain⟨b1,b2⟩:=b;exact⟨(p.1,b2)::rs,⟨aHC h.1,rfl,c⟩,.cons ⟨rfl,h.2⟩ q⟩
noncomputable def aNy(trs:List (TE×TE)):TE:=λσ H Q=>∀p,H p=none->yR trs σ (upd H p<|.dK []) λps H2=>H2 p=some (.dK [])/\∃kvs:List (Key×V),ps=kvs.map (λkv=>(kV kv.1,kv.2))/\kvs.length<=15/\Q (.ref p) (upd H2 p (.dK<|mY [] kvs))
theorem aIx{keys:List (Option Expr)}{values:List Expr}{trs:List (TE×TE)}(h:PPs X pos keys values trs)(hall:keys.all (·.isSome)=true)(hl:keys.length=values.length)(h0:keys≠[])
  (h15:keys.length<=15):PE X (.Dict keys values pos) (aNy trs):=by
 intro pins s σ H Q I q;have hn:=I.hok.fresh<|aO s.heap.objs.size;have I1:=I.laid (a:=s.heap.objs.size) (o:=.dK []) (h':=s.heap.push {cls:=.type "dict",data:=.dict #[]}) (t':=s.toks) (λ_ _ q=>aC _ q) (aO _)<|aFo s.heap I.big;refine wpAny_Dict_walk (knd:=dJ X.prog X.w) hall hl h0 h15<|thn (h pins _ σ _ _ I1<|q _ hn) λws s2 ⟨ps,H2,I2,rel,e,kvs,ep,lk,q2⟩=> ?_;subst ep;obtain⟨rs,c,rk⟩:=tX (P:=X.prog) (w:=X.w) rel;obtain⟨z,hd,vs0,r0,dd⟩:=aNM I2.hok e;cases r0;refine⟨rs,c,dd,λh' dd' hs=>⟨.ref s.heap.objs.size,_, ?_,rfl,q2⟩⟩
 have hz:(mY [] kvs).length<=AH:=by have h1:=oH kvs [];rw[vL] at h1;rw[AM];omega
 have he:∃q,h'.get? s.heap.objs.size=some q:=let ⟨q,_,_,hq,_⟩:=dd';⟨q,hq⟩
 exact aJj I2 (by rw[e];exact True.intro) hs he<|aKQ hz hd (rk.merge .nil) dd'
structure M1(X:Cx)(o:Expr)(m:Str)(apos:Pos)(e:Expr)(cpos:Pos):Prop where
 base:Ao o m X.env (eval o X.env)=eval o X.env
 few:((AX cpos (AB [e] X.env)).all (fun x=> !x.1) && (backToKw cpos (keywordEach [] X.env)).all (fun x=>x.1.isSome)
 &&decide (([e]:List Expr).length+([]:List Keyword).length+(if([]:List Keyword).isEmpty then 0 else 1)<30))=true
 line:(apos.endLine==cpos.line)=true
 trees:AX cpos (AB [e] X.env)=[(false,eval e X.env)]
structure M2(X:Cx)(o:Expr)(m:Str)(apos:Pos)(e f:Expr)(cpos:Pos):Prop where
 base:Ao o m X.env (eval o X.env)=eval o X.env
 few:((AX cpos (AB [e,f] X.env)).all (fun x=> !x.1) && (backToKw cpos (keywordEach [] X.env)).all (fun x=>x.1.isSome)
 &&decide (([e,f]:List Expr).length+([]:List Keyword).length+(if([]:List Keyword).isEmpty then 0 else 1)<30))=true
 line:(apos.endLine==cpos.line)=true
 trees:AX cpos (AB [e,f] X.env)=[(false,eval e X.env),(false,eval f X.env)]
def IsD(H:Hp)(a:BC):Prop:=(∃kvs,Rd H a<|.dK kvs)\/∃kvs,Rd H a<|.dT kvs
theorem aLi(I:Inv X pins σ H s)(d:IsD H a):
  s.TypeIs (.ref a) "dict"/\(∀b,Value.ref a=.ref b->∃ob,s.heap.get? b=some ob/\ob.dict=none)/\(a==Ai)=false:=by
 rcases d with⟨kvs,e⟩|⟨kvs,e⟩
 ·obtain⟨_,hd,vs,_,dd⟩:=aHH I.hok e;refine⟨dd.typeIs,λb q=> ?_,hd⟩;cases q;obtain⟨ob,_,_,h1,h2,_⟩:=dd;exact⟨ob,h1,h2.2.1⟩
 ·obtain⟨_,hd,xs,_,dd⟩:=aJV I.hok e;refine⟨dd.typeIs,λb q=> ?_,hd⟩;cases q;obtain⟨ob,_,_,h1,h2,_⟩:=dd;exact⟨ob,h1,h2.2.1⟩
variable {d:V}
theorem aKJ{Q:BA->BB->Prop}(hu:A.units+1<AN)(I:Inv X pins σ H s)(g:DGet H a y o)(ry:RelV y u)(rd:RelV d r)(h:∀w' s',Inv X pins σ H s'->RelV (o.getD d) w'->Q w' s'):
  AE (AF X.prog X.w) A (call (.builtin "dict.get") [.ref a,u,r]) Q E s:=by
 rcases g with⟨kvs,k,e,ey,l⟩|⟨kvs,k,b,e,ey,eb,l⟩
 ·subst ey;obtain⟨z,hd,vs,rel,dd⟩:=aHH I.hok e;refine call_meetsIn mQ dd.typeIs zT (xI _ _ _) (meets_dict_get_default (dJ X.prog X.w) a (aHC ry) hd r) ⟨_,dd.mapOf,h _ _ (I.tok _) ?_⟩;rw[l];exact(rel.val k).getD rd
 ·subst ey;cases(show u=Value.ref b from ry);obtain⟨z,hd,xs,rel,dd⟩:=aJV I.hok e;refine call_meetsIn mQ dd.typeIs zT (xI _ _ _) (meetsH_dict_get_default (tupleKind<|dJ X.prog X.w) a b hd r) ⟨tupleKind_room_in1 hu,k,xs,aBP I.hok eb,dd,h _ _ (I.tok _) ?_⟩;rw[l];exact(rel.val k).getD rd
noncomputable def aLK(td ty tx:TE):TE:=λσ H Q=>td σ H λx H1=>∃a,x=.ref a/\IsD H1 a/\ty σ H1 λy H2=>tx σ H2 λz H3=>∃o,DGet H3 a y o/\Q (o.getD z) H3
variable {o f:Expr}{apos cpos:Pos}{td ty tx:TE}
theorem aFd(hu:X.A.units+1<AN)(ho:PE X o td)(he:PE X e ty)(hf:PE X f tx)(m:M2 X o "get" apos e f cpos):PE X (.Call (.Attribute o "get" apos) [e,f] [] cpos) (aLK td ty tx):=by
 intro pins s σ H Q I h;refine wpAny_Call_method m.base m.few m.line PySem.F.plainAttrs_dict mQ PySem.F.type_dict_get<|thn (ho pins s σ H _ I h) λu s1 ⟨x,H1,I1,rx,a,ex,d,q1⟩=> ?_;subst ex;obtain rfl:u=Value.ref a:=rx;obtain⟨t1,t2,_⟩:=aLi I1 d;refine⟨t1,t2, ?_⟩;rw[m.trees]
 refine Calls.callWith_builtin rfl (Calls.evalArgs_plain<|Calls.spliced_cons (thn (he pins s1 σ H1 _ I1 q1) λiv s2 ⟨y,H2,I2,ry,q2⟩=>Calls.spliced_cons<|thn (hf pins s2 σ H2 _ I2 q2) λfv s3 ⟨z,H3,I3,rz,ov,g,q3⟩=>Calls.spliced_nil ?_))
 exact aKJ hu I3 g ry rz λw' s4 I4 rw'=>⟨_,H3,I4,rw',q3⟩
end L2
namespace Att
open PySem PySem.W PySem.Calls PyProof.Rows
theorem sI{P:Params}{h:BE}:∀ (ns:List Int) (vs:List BA),WellAll P h vs (ns.map WData.int)->IntsAre vs ns:=by
 intro ns
 induction ns with
 |nil=>intro vs w;rw[gJ] at w;cases w;exact .nil
 |cons n ns ih=>
  intro vs w;rw[bB] at w;cases w with
  |cons a b=>cases a;exact .cons _ _<|ih _ b
theorem aEv{l:OpenLaw}{n:Nat}(hn:l.most=some n){P:Params}{h:BE}{args:List WData}{vals:List BA}
  (hpre:l.row.toRowW.claim.pre args=true) (hwl:WellAll P h vals args):
  ∃a vs ns,vals=[Value.ref a]/\args=[WData.list<|ns.map WData.int]/\h.get? a=some {cls:=.type "list",data:=.seq vs.toArray}/\IntsAre vs ns/\ns.length<=n:=by
 have hsh:WShape.hasAll [] args [.list .int]=true:=(pre_splitW hpre).1;have hc:l.pre.holds [] {args:=args}=true:=(pre_splitW hpre).2;obtain⟨d,r,rfl,h1,h2⟩:=hasAllW_cons hsh;obtain rfl:=hasAllW_nil h2;obtain⟨xs,rfl,h3⟩:=hasW_list h1;obtain⟨ns,rfl⟩:=items_int h3
 have hlen:ns.length<=n:=by
  unfold OpenLaw.pre at hc
  have h4:(WTm.not<|.lt (.lit<|.int (n:Int)) (.len<|.arg 0)).holds [] {args:=[.list<|ns.map .int]}=true:=by have h4:=(holds_andW hc).1;rw[hn] at h4;exact h4
  have h5:=condW_of h4 (w_not<|w_lt w_lit (w_len_list<|w_arg rfl));rw[aD] at h5;refine aJK λq=> ?_
  have q':(n:Int)<((ns.length:Nat):Int):=by omega
  first
   |(rw[decide_eq_true q'] at h5;exact absurd h5<|by decide)
   |(simp at h5;omega)
 cases hwl with
 |cons w1 w2=>
  cases w2;cases w1 with
  |list ho hall=>exact⟨_,_,ns,rfl,rfl,ho,sI ns _ hall,hlen⟩
theorem aEB(l:OpenLaw)(args:List WData):l.row.toRowW.claim.post args (.bool true) args=true:=
 postW_of (r:=l.row.toRowW) (X:=(true==true))
  (show WShape.has [] (.bool true) .bool=true by first|rfl|decide|simp[WShape.has,WShape.arms,WShape.armsAll])
  (show(WTm.eq .res (.lit<|.bool true)).value [] {args:=args,res:=some<|.bool true,after:=args}=some (.bool<|true==true) from w_eq_bool (w_res rfl) w_lit) rfl
theorem attach_call{l:OpenLaw}{n:Nat}{q:AD}{loose:List Str}{XP:(Str->Option BA)->BE->Prop}{YP:AG->BE->Prop}{d:DefRec}
  (hn:l.most=some n) (hdf:d.params.defaults=[])
  (call:∀ (w:AG) (s₀ s₁:BB) (mg mb:Str→Option BA) (fa:BC) (o:BF) (pm cd doc:BA) (a:BC) (vs:List BA) (ns:List Int),
   Ground q loose [] XP w s₀ mg mb s₁.heap->YP w s₁.heap->
   s₁.heap.get? fa=some o->o.data=.func (docDef d.name d.params d.body d.scope pm cd doc)->s₁.heap.CodeRec cd d.name->mg d.name=some (.ref fa)->
   s₁.heap.get? a=some {cls:=.type "list",data:=.seq vs.toArray}->IntsAre vs ns->ns.length<=n->s₁.gens= #[]->
   codeAny (AF l.prog w) callerA (.call (.ref fa) ⟨[.ref a],[]⟩) (λr s'=>r=.ok (.ret (.bool true))/\OldK s₁.heap s'.heap/\s'.os=s₁.os/\AllBare s'.gens) s₁):
  WalkO q loose XP YP l.row.toRowW d [] (λf vs=>PySem.call f vs):=by
 intro w s₀ s₁ mg mb G Y fa o pm cd doc dV kV ho hd hcd hD hmg hg args vals as hpre hlay hrd hwl hlo;obtain rfl:dV=.none:=Dflts.none hD hdf;obtain rfl:kV=.none:=Dflts.noKw hD;obtain⟨a,vs,ns,rfl,rfl,hobj,hints,hlen⟩:=aEv hn hpre hwl;refine enter_call<|Ag (call w s₀ s₁ mg mb fa o pm cd doc a vs ns G Y ho (fd_plain hd) hcd hmg hobj hints hlen hg) λr s' hq=> ?_;obtain⟨rfl,h2,h3,h4⟩:=hq;exact⟨.inl ⟨.bool true,.bool true,[],rfl,λ_=>rfl,.bool true,aEB l _,λ_=>⟨List.Pairwise.nil,λ_ hm=>(nomatch hm)⟩⟩,h2,h3,h4⟩
end Att
namespace L2
open PySem PySem.Spec PyProof.Rows
theorem wY:∀ {vs:List BA}{ns:List Int},IntsAre vs ns->Vals (ns.map V.int) vs
 |_,_,.nil=>.nil
 |_,_,.cons n t h=>.cons ⟨t,rfl⟩<|wY h
def aMp(H:Hp):Prop:=∀b,H b=none\/∃o xs,H b=some (.frz o<|.lst xs)
theorem aFN{P:AD}{w:AG}{K:aA}{mg mb:Str->Option BA}{CX:CXT}{k:Nat}{fa a:BC}{fd:AJ}{x:Str}{sp:Sp}{s₁:BB}{vs:List BA}{ns:List Int}
  (KX:K.In s₁.heap) (hns:s₁.heap.Ns AI mg) (hb:s₁.heap.Ns builtinsNs mb) (hbb:∀x:Str,x≠"__name__"->mb x=AT x) (hlim:s₁.heap.NoLimit) (hg:s₁.gens= #[])
  (ha:s₁.heap.get? a=some {cls:=.type "list",data:=.seq vs.toArray}) (hi:IntsAre vs ns) (hl:ns.length<=AH) (hr:Room k callerA)
  (F:∀base:BE,K.In base->base.Ns AI mg->FnOk P w K mg base CX k fa fd [x] sp) (hbind:∀ (s:BB) (u:BA),BindsTo s fd ⟨[u],[]⟩ [(x,u)])
  (hsp:∀H:Hp,aMp H->SqL K H a (ns.map V.int)->sp [.ref a] H (λv _=>v=.bl true) λ_ _ _=>False)
  (hCX:∀H e s',CX [] H s₁ (λ_ _ _=>False) e s'->False):
  codeAny (AF P w) callerA (.call (.ref fa) ⟨[.ref a],[]⟩) (λr s'=>r=.ok (.ret<|.bool true)/\OldK s₁.heap s'.heap/\s'.os=s₁.os/\AllBare s'.gens) s₁:=by
 have rv:=wY hi;have lenV:=hi.length
 have core:∀H:Hp,aMp H->SqL K H a (ns.map V.int)->HOk P w H s₁.heap->(∀b,H b≠none->b=a)->(H a≠none->K.lookup a=none)->
   codeAny (AF P w) callerA (.call (.ref fa) ⟨[.ref a],[]⟩) (λr s'=>r=.ok (.ret<|.bool true)/\OldK s₁.heap s'.heap/\s'.os=s₁.os/\AllBare s'.gens) s₁:=by
  intro H hO hS hok hA hK;have base_of:∀ {b:BC}{o:BF},s₁.heap.get? b=some o->H b=none->(xM s₁.heap H).get? b=some o:=λe n=>aFw e n
  have noA:∀ {b:BC}{o:BF}{es:Array DictEntry}{ep:Nat},s₁.heap.get? b=some o->o.data=.dict es ep->H b=none:=λ{b o es ep} e d=>by
   cases q:H b with
   |none=>rfl
   |some u=>have e':b=a:=hA b (by rw[q];simp);subst e';rw[ha] at e;cases e;have d':Data.seq vs.toArray _=Data.dict es ep:=d;cases d'
  have nsK:∀ {b:BC}{m:Str->Option BA},s₁.heap.Ns b m->(xM s₁.heap H).Ns b m:=λ{b m} ⟨o,es,ep,e,d,r⟩=>⟨o,es,ep,base_of e<|noA e d,d,r⟩
  have hKb:K.In (xM s₁.heap H):=fun b o e=>base_of (KX b o e) (by
   cases q:H b with
   |none=>rfl
   |some u=>
    have e':b=a:=hA b (by rw[q];simp);subst e'
    rw[hK (by rw[q];simp)] at e;cases e)
  have hM:Mod K mg (xM s₁.heap H):=⟨hKb,nsK hns,⟨mb,nsK hb,hbb⟩,let ⟨mc,h1,h2⟩:=hlim;⟨mc,nsK h1,h2⟩⟩;have e0:Env0 P w K mg (xM s₁.heap H) callerA [] s₁ H:=⟨rfl,hM,λb o e=>aIZ e,jU<|aDL _ _,trivial,λb hb=>absurd (show b∈([]:List BC) from hb)<|by simp,hok,.of_eq hg⟩;refine Ag ((F _ hKb<|nsK hns).run callerA [] s₁ H ⟨[.ref a],[]⟩ [.ref a] [.ref a] _ _ hr e0 (hbind s₁<|.ref a) (.cons rfl .nil)<|hsp H hO hS) λr s' h=> ?_
  cases r with
  |error e=>exact(hCX H e s' h).elim
  |ok fl=>
   cases fl with
   |next=>exact False.elim h
   |brk=>exact False.elim h
   |cont=>exact False.elim h
   |ret u=>
    obtain⟨v,H',os,bare,un,hok',r',q⟩:=h;have q':v=.bl true:=q;subst q';obtain rfl:u=Value.bool true:=r';refine⟨rfl,OldK.of_keep λb o e=> ?_,os,bare⟩;cases q:H b with
    |none=>exact un.keep b o e q (by intro z;exact absurd (show b∈([]:List BC) from z)<|by simp)<|by simp
    |some u=>
     rcases hO b with z|⟨ob,xs,z⟩
     ·rw[q] at z;cases z
     ·have z2:=un.frzs b ob _ z;obtain⟨e1,_⟩:=hok b _ z;obtain⟨e2,_⟩:=hok' b _ z2;rw[e] at e1;cases e1;exact e2
 cases hk:K.lookup a with
 |some o=>
  have e:=KX a o hk;rw[ha] at e;cases e;refine core (λ_=>none) (λ_=>.inl rfl) (.inr ⟨_,vs.toArray,_,hk,rfl,rfl,rfl,by rw[aI,lenV];exact hl,by simpa using rv⟩) (λb u z=>by have z':(none:Option HO)=some u:=z;cases z') (λb z=>absurd rfl z) λz=>absurd rfl z
 |none=>
  refine core (λb=>if b=a then some (.frz {cls:=.type "list",data:=.seq vs.toArray} (.lst<|ns.map V.int)) else none) (λb=> ?_) (.inl<|.inr ⟨{cls:=.type "list",data:=.seq vs.toArray},if_pos rfl⟩) (λb u z=> ?_) (λb z=> ?_) λ_=>hk
  ·by_cases hb:b=a
   ·exact .inr ⟨_,_,if_pos hb⟩
   ·exact .inl<|if_neg hb
  ·by_cases hb:b=a
   ·have z':=(if_pos hb).symm.trans z;cases z';subst hb;exact⟨ha,by rw[aD];exact hl,vs,_,rv,ha⟩
   ·have z':=(if_neg hb).symm.trans z;cases z'
  ·by_cases hb:b=a
   ·exact hb
   ·exact absurd (if_neg hb) z
noncomputable abbrev KOf{K:aA}{h:BE}(_:K.In h):aA:=K
theorem walk_of{l:PySem.W.OpenLaw}{n k:Nat}{q:AD}{loose:List Str}{XP:(Str->Option BA)->BE->Prop}{YP:AG->BE->Prop}{d:DefRec}{K:Params->aA}{CX:AG->CXT}{sp:AG->Sp}{x:Str}
  (hn:l.most=some n) (hn2:n<=AH) (hdf:d.params.defaults=[]) (hr:Room k callerA)
  (hY:∀ (w:AG) (h:BE),YP w h->(K w.params).In h)
  (F:∀ (w:AG) (mg:Str→Option BA) (fa:BC) (h:BE),(K w.params).In h→h.Ns AI mg→mg d.name=some (.ref fa)→
   ∃fd:AJ,(∀ (s:BB) (u:BA),BindsTo s fd ⟨[u],[]⟩ [(x,u)])/\
    ∀base:BE,(K w.params).In base->base.Ns AI mg->FnOk l.prog w (K w.params) mg base (CX w) k fa fd [x] (sp w))
  (hsp:∀ (w:AG) (H:Hp) (a:BC) (ns:List Int),ns.length<=n->aMp H->SqL (K w.params) H a (ns.map V.int)->sp w [.ref a] H (λv _=>v=.bl true) λ_ _ _=>False)
  (hCX:∀ (w:AG) (H:Hp) (s:BB) (e:BA) (s':BB),CX w [] H s (λ_ _ _=>False) e s'->False):
  PySem.W.WalkO q loose XP YP l.row.toRowW d [] (λf vs=>PySem.call f vs):=by
 refine Att.attach_call hn hdf λw s₀ s₁ mg mb fa o pm cd doc a vs ns G Y ho hd hcd hmg hobj hints hlen hg=> ?_
 have KX:=hY w _ Y;obtain⟨fd,hb,hF⟩:=F w mg fa _ KX G.T.g hmg;exact aFN KX G.T.g G.T.b G.T.builtins G.T.nolimit hg hobj hints (aQ hlen hn2) hr hF hb (λH hO hS=>hsp w H a ns hlen hO hS) λH e s'=>hCX w H s₁ e s'
noncomputable def aIr(s:BG)(j:Nat):BG:=match s with
 |.ClassDef _ _ _ body _ _ _ _ _ _ _=>body.getD j<|.Pass ⟨0,0,0,0⟩
 |_=> .Pass ⟨0,0,0,0⟩
noncomputable def fK(s:BG):Arguments:=match s with
 |.FunctionDef _ a _ _ _ _ _ _ _ _=>a
 |_=>{posonlyargs:=[],args:=[],vararg:=none,kwonlyargs:=[],kw_defaults:=[],kwarg:=none,defaults:=[]}
noncomputable def dG(s:BG):List BG:=match s with
 |.FunctionDef _ _ b _ _ _ _ _ _ _=>b
 |_=>[]
noncomputable def bE(s:BG):Scope:=match s with
 |.FunctionDef _ _ _ _ _ _ sc _ _ _=>sc
 |_=>{kind:=.function,names:=[],isGenerator:=false,isCoroutine:=false}
noncomputable abbrev CX0:CXT:=λ_ _ _ _ _ _=>False
noncomputable abbrev E0:XK:=λ_ _ _=>False
theorem aND{X:Cx}:aBZ CX0 X E0:=λ_ _ _ _ _ _ _ h=>h.elim
structure Fun(K:aA)(x qual:Str)(st:BG)(f:BC)(fd:AJ):Prop where
 ex:∃ (oc:BA) (od:Option BC) (kV doc pm:BA) (an:Option BC) (cdv ct:BA) (osl:Array (Option BA)),
  fd=cU x qual (fK st) (dG st) (bE st) .none kV doc pm an cdv ct/\K.lookup f=some ⟨oc,od,.func fd,osl⟩/\fE K cdv qual=true
 kp:bS K (.ref f)=true
variable {P:AD}{w:AG}{K:aA}{mg:Str->Option BA}{base:BE}
theorem Fun.ok{x qual:Str}{st:BG}{f:BC}{fd:AJ}{N ps:List Str}{k:Nat}{sp:Sp}(F:Fun K x qual st f fd)(S:jC N ps (bE st))(len:∀vs H Q E,sp vs H Q E->vs.length=ps.length)
  (hbody:∀ (cdv:BA) (A:BD) (outer:List Env) (s:BB) (H:Hp) (vs:List V) (Q:VK) (E:XK),Room k (A.deeper (Ak qual (bE st) s.heap.objs.size f cdv))→sp vs H Q E→
   ∃t,PSs (jQ CX0 P w K mg base N qual (bE st) f cdv A outer s H E).nox (dG st) t/\t {nx:=λ_ H'=>Q .non H',rt:=Q} (start N vs) H):FnOk P w K mg base CX0 (k+1) f fd ps sp:=by
 obtain⟨oc,od,kV,doc,pm,an,cdv,ct,osl,rfl,lk,hcd⟩:=F.ex;refine aKh lk hcd S len λA outer s H vs Q E hr hsp=> ?_
 obtain⟨t,h,q⟩:=hbody cdv A outer s H vs Q E hr hsp;exact⟨t,h.nox,q⟩
theorem Fun.binds{x qual:Str}{st:BG}{f:BC}{fd:AJ}{ps:List Str}(F:Fun K x qual st f fd)
  (h:∀ (kV doc pm:BA) (an:Option BC) (cdv ct:BA) (us:List BA),us.length=ps.length->bindArgs (cU x qual (fK st) (dG st) (bE st) .none kV doc pm an cdv ct) ⟨us,[]⟩=pure (ps.zip us)):Binds K fd ps []:=by
 obtain⟨oc,od,kV,doc,pm,an,cdv,ct,osl,rfl,lk,hcd⟩:=F.ex;exact .all<|h kV doc pm an cdv ct
theorem aCg{x qual:Str}{st:BG}{f:BC}{oc:BA}{od an:Option BC}{osl:Array (Option BA)}{kV doc pm cdv ct:BA}(l:K.lookup f=some ⟨oc,od,.func<|cU x qual (fK st) (dG st) (bE st) .none kV doc pm an cdv ct,osl⟩)
  (c:fE K cdv qual=true) (k:bS K (.ref f)=true):Fun K x qual st f (cU x qual (fK st) (dG st) (bE st) .none kV doc pm an cdv ct):=⟨⟨oc,od,kV,doc,pm,an,cdv,ct,osl,rfl,l,c⟩,k⟩
theorem fQ{n:Nat}(h:n<=10000):n<AH:=aHp h<|by decide
variable {X:Cx}
theorem pv(i:Nat){x:Str}{pos:Pos}(hN:X.N[i]? =some x:=by rfl)(hv:Vis X.env.scope x:=by first|exact Or.inl rfl|exact Or.inr (Or.inl rfl)|exact Or.inr (Or.inr rfl))(hd:(x==("__debug__":Str))=false:=by decide)
  (hcd:(x==("__classdict__":Str))=false:=by decide):PE X (.Name x pos) (mU i):=aLN hN hv hd hcd
theorem aJE{A B:Prop}(h:B):if false=true then A else B:=by rw[if_neg bC];exact h
theorem aJy{A B:Prop}(h:A):if true=true then A else B:=by rw[if_pos rfl];exact h
def Same(H H':Hp):Prop:=∀b o,H b=some o->H' b=some o
theorem Same.refl(H:Hp):Same H H:=λ_ _ h=>h
theorem Same.trans{H H1 H2:Hp}(a:Same H H1)(b:Same H1 H2):Same H H2:=λc o h=>b c o<|a c o h
theorem Same.free{H H':Hp}(e:Same H H'){l:BC}(h:H' l=aMA):H l=aMA:=by
 cases q:H l with
 |none=>rfl
 |some o=>rw[e l o q] at h;cases h
theorem Same.seq{H H':Hp}{a:BC}{xs:List V}(e:Same H H')(h:SqL K H a xs):SqL K H' a xs:=by
 rcases h with(h|⟨o,h⟩)|h
 ·exact .inl (.inl<|e _ _ h)
 ·exact .inl<|.inr ⟨o,e _ _ h⟩
 ·exact .inr h
noncomputable def wE(X:Cx)(e:Expr):TE:=λσ H Q=>∀ (pins:List (BC×BF)) (s:BB),Inv X pins σ H s->AE (AF X.prog X.w) X.A (eval e X.env) (EP X pins σ Q) X.xe s
noncomputable def wT(X:Cx)(e:Expr):TT:=λσ H Q=>∀ (pins:List (BC×BF)) (s:BB),Inv X pins σ H s->AE (AF X.prog X.w) X.A (isTrue e X.env<|eval e X.env) (TP X pins σ Q) X.xe s
noncomputable def wW(X:Cx)(e:Expr):TT:=λσ H Q=>∀ (whole:Sem BA) (pins:List (BC×BF)) (s:BB),Inv X pins σ H s->AE (AF X.prog X.w) X.A (isTrue e X.env whole) (TP X pins σ Q) X.xe s
noncomputable def wA(X:Cx)(es:List Expr):TA:=λσ H Q=>∀ (pos:Pos) (pins:List (BC×BF)) (s:BB),Inv X pins σ H s->AE (AF X.prog X.w) X.A (spliced (AX pos<|AB es X.env)) (AP X pins σ Q) X.xe s
noncomputable def wS(X:Cx)(st:BG):TS:=λD σ H=>∀ (pins:List (BC×BF)) (s:BB),Inv X pins σ H s->AE (AF X.prog X.w) X.A (exec st X.env) (SP X pins D) X.xe s
noncomputable def wSs(X:Cx)(sts:List BG):TS:=λD σ H=>∀ (pins:List (BC×BF)) (s:BB),Inv X pins σ H s->AE (AF X.prog X.w) X.A (execs sts X.env) (SP X pins D) X.xe s
noncomputable def wG(X:Cx)(tg:Expr):TG:=λv σ H Q=>∀ (pins:List (BC×BF)) (s:BB) (u:BA),Inv X pins σ H s->RelV v u->
  AE (AF X.prog X.w) X.A (assign tg X.env u) (λ_ s'=>∃σ' H',Inv X pins σ' H' s'/\Q σ' H') X.xe s
noncomputable def wI(X:Cx)(tg iter:Expr):TI:=λσ H R=>∀ (pins:List (BC×BF)) (s:BB),Inv X pins σ H s->
  AE (AF X.prog X.w) X.A (eval iter X.env) (λv s1=>AE (AF X.prog X.w) X.A (pyIter v) (PIE X pins σ tg R) X.xe s1) X.xe s
variable {e:Expr}{es:List Expr}{st:BG}{sts:List BG}{tg iter:Expr}{σ:St}{H:Hp}
theorem dH:PE X e (wE X e):=λpins s _ _ _ I h=>h pins s I
theorem aJz:PT X e (wT X e):=λpins s _ _ _ I h=>h pins s I
theorem aMP:PW X e (wW X e):=λw pins s _ _ _ I h=>h w pins s I
theorem xN:PA X es (wA X es):=λpos pins s _ _ _ I h=>h pos pins s I
theorem aOx:PS X st (wS X st):=λpins s _ _ _ I h=>h pins s I
theorem sC:PSs X sts (wSs X sts):=λpins s _ _ _ I h=>h pins s I
theorem aMZ:PG X tg (wG X tg):=λpins s _ _ _ u _ I r h=>h pins s u I r
theorem aOh:PI X tg iter (wI X tg iter):=λpins s _ _ _ I h=>h pins s I
theorem PE.to{t:TE}{Q:VK}(h:PE X e t)(q:t σ H Q):wE X e σ H Q:=λpins s I=>h pins s σ H Q I q
theorem PT.to{t:TT}{Q:Bool->Hp->Prop}(h:PT X e t)(q:t σ H Q):wT X e σ H Q:=λpins s I=>h pins s σ H Q I q
theorem PW.to{t:TT}{Q:Bool->Hp->Prop}(h:PW X e t)(q:t σ H Q):wW X e σ H Q:=λw pins s I=>h w pins s σ H Q I q
theorem PA.to{t:TA}{Q:List V->Hp->Prop}(h:PA X es t)(q:t σ H Q):wA X es σ H Q:=λpos pins s I=>h pos pins s σ H Q I q
theorem PS.to{t:TS}{D:sJ}(h:PS X st t)(q:t D σ H):wS X st D σ H:=λpins s I=>h pins s σ H D I q
theorem PSs.to{t:TS}{D:sJ}(h:PSs X sts t)(q:t D σ H):wSs X sts D σ H:=λpins s I=>h pins s σ H D I q
theorem wE.imp{Q Q':VK}(h:wE X e σ H Q)(k:∀v H',Q v H'->Q' v H'):wE X e σ H Q':=λpins s I=>thn (h pins s I) λu s' ⟨v,H',I',r,q⟩=>⟨v,H',I',r,k v H' q⟩
theorem wT.imp{Q Q':Bool->Hp->Prop}(h:wT X e σ H Q)(k:∀v H',Q v H'->Q' v H'):wT X e σ H Q':=λpins s I=>thn (h pins s I) λu s' ⟨H',I',q⟩=>⟨H',I',k u H' q⟩
theorem wW.imp{Q Q':Bool->Hp->Prop}(h:wW X e σ H Q)(k:∀v H',Q v H'->Q' v H'):wW X e σ H Q':=λw pins s I=>thn (h w pins s I) λu s' ⟨H',I',q⟩=>⟨H',I',k u H' q⟩
theorem wA.imp{Q Q':List V->Hp->Prop}(h:wA X es σ H Q)(k:∀v H',Q v H'->Q' v H'):wA X es σ H Q':=λpos pins s I=>thn (h pos pins s I) λu s' ⟨v,H',I',r,q⟩=>⟨v,H',I',r,k v H' q⟩
theorem SP.imp{pins:List (BC×BF)}{D D':sJ}{f:Flow}{s:BB}(h:SP X pins D f s)(k1:∀σ H,D.nx σ H->D'.nx σ H)(k2:∀v H,D.rt v H->D'.rt v H)(k3:∀σ H,D.bk σ H->D'.bk σ H)(k4:∀σ H,D.ct σ H->D'.ct σ H):SP X pins D' f s:=by
 cases f with
 |next=>obtain⟨σ',H',I,q⟩:=h;exact⟨σ',H',I,k1 _ _ q⟩
 |brk=>obtain⟨σ',H',I,q⟩:=h;exact⟨σ',H',I,k3 _ _ q⟩
 |cont=>obtain⟨σ',H',I,q⟩:=h;exact⟨σ',H',I,k4 _ _ q⟩
 |ret u=>obtain⟨v,σ',H',I,r,q⟩:=h;exact⟨v,σ',H',I,r,k2 _ _ q⟩
theorem wSs.imp{D D':sJ}(h:wSs X sts D σ H)(k1:∀σ H,D.nx σ H->D'.nx σ H)(k2:∀v H,D.rt v H->D'.rt v H)(k3:∀σ H,D.bk σ H->D'.bk σ H)(k4:∀σ H,D.ct σ H->D'.ct σ H):wSs X sts D' σ H:=
 λpins s I=>thn (h pins s I) λf s' q=>q.imp k1 k2 k3 k4
theorem wG.imp{v:V}{Q Q':St->Hp->Prop}(h:wG X tg v σ H Q)(k:∀σ' H',Q σ' H'->Q' σ' H'):wG X tg v σ H Q':=λpins s u I r=>thn (h pins s u I r) λ_ s' ⟨σ',H',I',q⟩=>⟨σ',H',I',k _ _ q⟩
variable {pins:List (BC×BF)}{F:Hp}{s:BB}
theorem HOk.track{h:BE}{a:BC}{o:HO}(ok:HOk P w H h)(hn:H a=none)(new:ObjOk P w (upd H a o) h a o):HOk P w (upd H a o) h:=λb u e=>by
 by_cases hb:b=a
 ·subst hb;rw[bR] at e;cases e;exact new
 ·rw[bK hb] at e;exact(ok b u e).stay (λ_ _ _ q=>q) (λc q=>by rw[bK<|cF q hn];exact q) λc xs q=>by rw[bK<|cF q hn];exact q
theorem Inv.track{a:BC}{o:HO}(I:Inv X pins σ H s)(hn:H a=none)(h0:X.s₀.heap.objs.size<=a)(hL:a≠X.env.locals)(hc:∀x c,X.env.cells.lookup x=some c->c≠a)
  (hp:∀p∈X.pn++pins,p.1≠a) (new:ObjOk X.prog X.w (upd H a o) s.heap a o):Inv X pins σ (upd H a o) s:=by
 refine⟨I.ok,I.os,I.bare,⟨I.base.keep,I.base.slot,λb u e n hx=> ?_,I.base.there,λb xs e=> ?_,λb u xs e=> ?_,λb ps e=> ?_⟩,I.loc,I.cell, ?_,λx c e=> ?_,λp hp'=> ?_,I.hok.track hn new,I.len⟩
 ·rw[bK (bG<|aX (aK e) h0)];exact I.base.free b u e n hx
 ·have q:=I.base.tups b xs e;rw[bK<|cF q hn];exact q
 ·have q:=I.base.frzs b u xs e;rw[bK<|cF q hn];exact q
 ·obtain⟨m,q⟩:=I.base.tbls b ps e;exact⟨m,by rw[bK<|cF q hn];exact q⟩
 ·rw[bK<|Ne.symm hL];exact I.free
 ·rw[bK<|hc x c e];exact I.freeC x c e
 ·obtain⟨e,n,r⟩:=I.pin p hp';exact⟨e,by rw[bK<|hp p hp'];exact n,r⟩
noncomputable def aMq:HO->Prop
 |.lst _=>True
 |.tup _=>True
 |.dK _=>True
 |.frz _ (.lst _)=>True
 |.frz _ (.dK _)=>True
 |.ext _=>True
 |_=>False
def Smp(H:Hp):Prop:=∀b o,H b=some o->aMq o
theorem ObjOk.smp{h:BE}{a:BC}{o:HO}(z:aMq o)(x:ObjOk P w H h a o):ObjOk P w F h a o:=by
 cases o with
 |lst xs=>exact x
 |tup xs=>exact x
 |dK kvs=>exact x
 |frz ob u=>cases u with
  |lst xs=>exact x
  |dK kvs=>exact x
  |_=>exact absurd z λq=>q
 |ext φ=>exact x
 |_=>exact absurd z λq=>q
theorem Smp.sub(h:Smp H)(s:Same F H):Smp F:=λb o e=>h b o<|s b o e
theorem Inv.less(I:Inv X pins σ H s)(hF:Same F H)(h0:Same X.B₀ F)(hs:Smp F):Inv X pins σ F s:=by
 refine⟨I.ok,I.os,I.bare,⟨I.base.keep,I.base.slot,λb u e n hx=>hF.free<|I.base.free b u e n hx,I.base.there,λb xs e=>h0 _ _<|X.hB _ _ e trivial,λb u xs e=>h0 _ _<|X.hB _ _ e trivial,λb ps e=>⟨#[], ?_⟩⟩,I.loc,I.cell,hF.free I.free,λx c e=>hF.free<|I.freeC x c e,λp hp=> ?_,λb o e=>(I.hok b o<|hF b o e).smp<|hs b o e,I.len⟩
 ·have q:=h0 _ _<|X.hB _ _ e trivial;rw[q];simp
 ·obtain⟨e,n,r⟩:=I.pin p hp;exact⟨e,hF.free n,r⟩
noncomputable def clo(cells:List (Str×BC)):List (Str×NameKind)->List (Str×BC)->List (Str×BC)
 |[],cs=>cs
 |(n,k)::r,cs=>clo cells r (if(k==NameKind.free)=true then(n,(cells.lookup n).getD 0)::cs else cs)
theorem oR{env:Env}:∀ (names:List (Str×NameKind)) (cs:List (Str×BC)),(∀y∈names,y.2=.free->∃c,env.cells.lookup y.1=some c)->
  (forIn names cs (λ(x:Str×NameKind) (r:List (Str×BC))=>if(x.2==NameKind.free)=true then(do let c <-cellOf env x.1;pure (ForInStep.yield ((x.1,c)::r))) else pure (ForInStep.yield r)):Sem (List<|Str×BC))=pure (clo env.cells names cs)
 |[],cs,_=>rfl
 |(n,k)::r,cs,h=>by
  rw[vM]
  by_cases hk:(k==NameKind.free)=true
  ·obtain⟨c,hc⟩:=h (n,k) aM (by simpa using hk)
   have e:cellOf env n=pure c:=by unfold cellOf;have hc':env.cells.lookup n=some c:=hc;rw[hc']
   simp only[hk,if_true,e,pure_bind,clo];have hc':env.cells.lookup n=some c:=hc;rw[hc'];exact oR r _ λy hy=>h y<|aH _ hy
  ·simp only[hk,aZ,if_false,pure_bind,clo];exact oR r _ λy hy=>h y<|aH _ hy
theorem uE{env:Env}{scope:Scope}(h:∀y∈scope.names,y.2=.free->∃c,env.cells.lookup y.1=some c):closureFor scope env=pure (clo env.cells scope.names []):=by simp only[closureFor];have e:=oR (env:=env) scope.names [] h;simp only[bind_pure] ;exact e
theorem aAz(cells:List (Str×BC)):∀ (names:List (Str×NameKind)) (cs:List (Str×BC)) (x:Str) (c:BC),(clo cells names cs).lookup x=some c->cs.lookup x=some c\/((x,NameKind.free)∈names/\c=(cells.lookup x).getD 0)
 |[],cs,x,c,h=>.inl h
 |(n,k)::r,cs,x,c,h=>by
  rcases aAz cells r _ x c h with q|⟨q1,q2⟩
  ·by_cases hk:(k==NameKind.free)=true
   ·rw[if_pos hk,dD] at q;have ek:k=.free:=by simpa using hk
    by_cases hx:(x==n)=true
    ·simp only[hx] at q;have e:x=n:=by simpa using hx
     subst e;exact .inr ⟨by rw[ek];exact aM,(cC.inj q).symm⟩
    ·have hx':(x==n)=false:=by simpa using hx
     simp only[hx'] at q;exact .inl q
   ·rw[if_neg hk] at q;exact .inl q
  ·exact .inr ⟨aH _ q1,q2⟩
theorem aCz(cells:List (Str×BC)):∀ (names:List (Str×NameKind)) (cs:List (Str×BC)) (x:Str),(x,NameKind.free)∈names\/(∃c,cs.lookup x=some c)->∃c,(clo cells names cs).lookup x=some c
 |[],cs,x,h=>h.elim (λz=>nomatch z) λz=>z
 |(n,k)::r,cs,x,h=>by
  refine aCz cells r _ x ?_
  by_cases hk:(k==NameKind.free)=true
  ·rw[if_pos hk]
   by_cases hx:(x==n)=true
   ·exact .inr ⟨(cells.lookup n).getD 0,by rw[dD];simp only[hx]⟩
   ·have hx':(x==n)=false:=by simpa using hx
    rcases h with q|⟨c,q⟩
    ·rcases aG.mp q with z|z
     ·cases z;exact absurd (by simp) hx
     ·exact .inl z
    ·exact .inr ⟨c,by rw[dD];simp only[hx'];exact q⟩
  ·rw[if_neg hk]
   rcases h with q|q
   ·rcases aG.mp q with z|z
    ·cases z;exact absurd rfl hk
    ·exact .inl z
   ·exact .inr q
theorem qC{env:Env}:∀ {names:List (Str × NameKind)} {x:Str},((names.map fun (n,k)=>if (k==NameKind.free && env.scope.kind== .function && env.kindOf n==some .cell) then (n,NameKind.cell) else (n,k)).lookup x=some .cell∨
   (names.map λ(n,k)=>if(k==NameKind.free&&env.scope.kind==.function&&env.kindOf n==some .cell) then(n,NameKind.cell) else(n,k)).lookup x=some .free)->names.lookup x=some .cell\/names.lookup x=some .free
 |[],x,h=>by simp at h
 |(n,k)::r,x,h=>by
  have ih:= @qC env r x;rw[bB] at h;rw[dD]
  by_cases hc:(k==NameKind.free&&env.scope.kind==.function&&env.kindOf n==some .cell)=true
  ·simp only[hc,if_true,dD] at h;cases hx:x==n with
   |true=>
    have hk:k=.free:=by have:=hc;simp only[aR,beq_iff_eq] at this;exact this.1.1
    exact .inr (by rw[hk])
   |false=>simp only[hx] at h ⊢;exact ih h
  ·have hc':(k==NameKind.free&&env.scope.kind==.function&&env.kindOf n==some .cell)=false:=by simpa using hc
   simp only[hc',aZ,if_false,dD] at h;cases hx:x==n with
   |true=>simp only[hx] at h ⊢;exact h
   |false=>simp only[hx] at h ⊢;exact ih h
theorem aDG{prog:AD}{A:BD}{R:Result->BB->Prop}{elt target:Expr}{ifs:List Expr}{scope:Scope}{pos:Pos}{it acc:BA}{env:Env}(Ξ:BA->BB->Prop)(hΞ:∀e s,Ξ e s->notedBy (AF prog w) A env (λe s'=>R (.error e) s') e s)(J:Nat->BB->Prop)
  (turn:∀n s,J n s→AE (AF prog w) A (pyNext it) (fun r s₁=>match r with
   |none=>R (.ok .next) s₁
   | some v=>AE (AF prog w) A (letOwnedTupleGo target it v) (fun _ s₂=>AE (AF prog w) A (assign target env v) (fun _ s₃=>
     AE (AF prog w) A (forIn ifs true fun c r=>if r=true then do let ok ← isTrue c env (eval c env); pure (ForInStep.yield ok) else pure (ForInStep.yield r)) (fun ok s₄=>
      if ok=true then AE (AF prog w) A (eval elt env) (λx s₅=>AE (AF prog w) A (call (.builtin "list.append") [acc,x]) (λ_ s₆=>∃m,m<n/\J m s₆) Ξ s₅) Ξ s₄
      else ∃m,m<n/\J m s₄) Ξ s₃) Ξ s₂) Ξ s₁) Ξ s)
  (n:Nat) (h:J n s):codeAny (AF prog w) A (.compLoop (.ListComp elt [⟨target,iter,ifs,0⟩] scope pos) 0 it acc env) R s:=by
 refine codeAny_loop rfl J (λn s hI=> ?_) n h;show AE _ A ((compTurn (.ListComp elt [⟨target,iter,ifs,0⟩] scope pos) 0 it acc env).onRaise λx=>do noteFrame x env;theTreesLotGoes x) _ _ s;refine wpAny_noted ?_;rw[compTurn_list];refine AA<|As (AA<|AY (turn n s hI) (λr s₁ h₁=> ?_) λe s z=>hΞ e s z);cases r with
 |none=>exact AC h₁
 |some v=>
  refine AA<|AY h₁ (λ_ s₂ h₂=> ?_) λe s z=>hΞ e s z;refine AA<|AY h₂ (λ_ s₃ h₃=> ?_) λe s z=>hΞ e s z;refine AA<|AY h₃ (λok s₄ h₄=> ?_) λe s z=>hΞ e s z;cases ok with
  |false=>exact AC ⟨rfl,h₄⟩
  |true=>exact AA (AA<|AY h₄ (λx s₅ h₅=>AA<|AY h₅ (λ_ s₆ h₆=>AC<|AC ⟨rfl,h₆⟩) λe s z=>hΞ e s z) λe s z=>hΞ e s z)
noncomputable def aMk(X:Cx)(ifs:List Expr):TT:=λσ H Q=>∀ (pins:List (BC×BF)) (s:BB),Inv X pins σ H s->
 AE (AF X.prog X.w) X.A (forIn ifs true λc r=>if r=true then do let ok <-isTrue c X.env (eval c X.env);pure (ForInStep.yield ok) else pure (ForInStep.yield r)) (TP X pins σ Q) X.xe s
theorem aAq{Q:Bool->Hp->Prop}(h:Q true H):aMk X [] σ H Q:=λ_ _ I=>wpAny_tests_nil ⟨H,I,h⟩
theorem aAE{c:Expr}{Q:Bool->Hp->Prop}(h:wT X c σ H Q):aMk X [c] σ H Q:=λpins s I=>wpAny_tests_one<|h pins s I
noncomputable def cxB(X:Cx)(N:List Str)(scope:Scope)(cl:List (Str×BC))(C:BC)(ex:List BC)(s:BB)(H:Hp):Cx:=
 {prog:=X.prog,w:=X.w,K:=X.K,mg:=X.mg,base:=X.base,A:=X.A,N:=N,s₀:=s,H₀:=H,env:=compEnvC scope cl C X.env,outer:=X.stack,stack:=X.stack,ex:=ex,fn:=λ_=>false,calm:=true,pn:=[],xe:=λ_ _=>False}
noncomputable def oF(X:Cx)(N:List Str)(scope:Scope)(cl:List (Str×BC))(C:BC)(ex:List BC)(s:BB)(H:Hp)(ξ:BA->BB->Prop):Cx:={cxB X N scope cl C ex s H with xe:=ξ}
noncomputable def uF(cap:List (Option Nat))(σ:St):St:=cap.map λo=>o.bind λk=>(σ[k]?).join
noncomputable def lC(scope sc:Scope):Bool:=scope.names.all λy=>(!(y.2==NameKind.free)||sc.names.lookup y.1==some NameKind.cell)&&!(y.2==NameKind.cell)&&(!(y.2==NameKind.local)||scope.names.lookup y.1==some NameKind.local)
noncomputable def jM(N M:List Str)(scope sc:Scope)(cap:List (Option Nat)):Bool:=cap.length==N.length&&(cap.zip N).all λy=>match y.1 with
 |none=>true
 |some k=>M[k]? ==some y.2&&sc.names.lookup y.2==some NameKind.cell&&scope.names.lookup y.2==some NameKind.free
theorem gI{env:Env}(hf:env.scope.kind=.function):∀ {names:List (Str×NameKind)}{x:Str},names.lookup x=some .free->env.kindOf x=some .cell->
  (names.map λ(n,k)=>if(k==NameKind.free&&env.scope.kind==.function&&env.kindOf n==some .cell) then(n,NameKind.cell) else(n,k)).lookup x=some .cell
 |[],x,h,_=>by simp at h
 |(n,k)::r,x,h,hc=>by
  rw[bB];cases hx:x==n with
  |true=>
   have e:x=n:=by simpa using hx
   subst e;rw[dD] at h;simp only[beq_self_eq_true] at h;have ek:k=.free:=cC.inj h;subst ek;have hb:(NameKind.free==NameKind.free&&env.scope.kind==.function&&env.kindOf x==some .cell)=true:=by rw[hf,hc];rfl
   show List.lookup x ((if(NameKind.free==NameKind.free&&env.scope.kind==.function&&env.kindOf x==some .cell)=true then(x,NameKind.cell) else(x,NameKind.free))::_)=_;rw[if_pos hb,dD];simp only[beq_self_eq_true]
  |false=>
   rw[dD] at h;simp only[hx] at h;have ih:=gI hf (names:=r) h hc
   by_cases hb:(k==NameKind.free&&env.scope.kind==.function&&env.kindOf n==some .cell)=true
   ·simp only[hb,if_true,dD,hx];exact ih
   ·have hb':(k==NameKind.free&&env.scope.kind==.function&&env.kindOf n==some .cell)=false:=by simpa using hb
    simp only[hb',aZ,if_false,dD,hx];exact ih
theorem Inv.low(I:Inv X pins σ H s):∀b∈frs X.stack,b<s.heap.objs.size:=λb hb=>by obtain⟨_,o,ho,_⟩:=I.stack.mem hb;exact aK ho
theorem aEc{elt:Expr}{ifs:List Expr}{scope:Scope}{pos:Pos}{N:List Str}{cap:List (Option Nat)}{g:TG}{tt:TT}{te:TE}{J:It}{fp:List BC}{it:BC}{tn:Nat->BE->Prop}{E:BA->BB->Prop}{sc:Scope}(ξ:List (Str×BC)->BC->BA->BB->Prop)(ξ':List (Str×BC)->BC->BA->Hp->BB->Prop)
  (hc:X.calm=true) (hsc:X.env.scope=sc) (hcn:lC scope sc=true) (hcap:jM N X.N scope sc cap=true) (hk:scope.kind=.function)
  (I:Inv X pins σ H s) (T:aGn X.prog X.w X.K tg J fp it tn) (st:tn 0 s.heap) (hfp:∀b∈fp,vQ X pins H b)
  (hg:∀cl C,PG (oF X N scope cl C fp s H<|ξ cl C) tg g) (ht:∀cl C pi s2 σ2 H2 Q,Inv (oF X N scope cl C fp s H<|ξ cl C) pi σ2 H2 s2->tt σ2 H2 Q->AE (AF X.prog X.w) X.A (forIn ifs true λc r=>if r=true then do let ok <-isTrue c (compEnvC scope cl C X.env) (eval c<|compEnvC scope cl C X.env);pure (ForInStep.yield ok) else pure (ForInStep.yield r)) (TP (oF X N scope cl C fp s H<|ξ cl C) pi σ2 Q) (ξ cl C) s2)
  (he:∀cl C,PE (oF X N scope cl C fp s H<|ξ cl C) elt te) (W:Nat->Nat->List V->St->Hp->Prop) (m0:Nat) (w0:W 0 m0 [] (uF cap σ) H)
  (RR:BA->BC->Result->BB->Prop)
  (hξ:∀cl C e s',ξ cl C e s'->∃pi σb H',Inv (oF X N scope cl C fp s H<|ξ cl C) pi σb H' s'/\ξ' cl C e H' s')
  (hx:∀cl D C e H' s',ξ' cl C e H' s'->H' C=none->X.s₀.heap.objs.size<=C->C≠X.env.locals->(∀x c,X.env.cells.lookup x=some c->c≠C)->(∀p∈X.pn++pins,p.1≠C)->C∉frs X.stack->(∃m,s'.heap.Ns C m)->Inv X pins σ H' s'->notedBy (AF X.prog X.w) X.A (compEnvC scope cl C X.env) (λe s''=>RR (.ref D) C (.error e) s'') e s')
  (turn:∀i m ys σb H2,W i m ys σb H2→
   (J.stop i H2/\∀D C s',H2 D=none->H2 C=none->D≠C->X.s₀.heap.objs.size<=C->C≠X.env.locals->(∀x c,X.env.cells.lookup x=some c->c≠C)->(∀p∈X.pn++pins,p.1≠C)->C∉frs X.stack->(∃m,s'.heap.Ns C m)->Inv X pins σ (upd H2 D<|.lst ys) s'->RR (.ref D) C (.ok .next) s')\/
   (J.go i H2∧ys.length<AH∧∃Nx:List V→St→Hp→Prop,(∀ys' σ' H',Nx ys' σ' H'→∃m',m'<m∧W (i+1) m' ys' σ' H')∧
    ∀x H',J.yld i H2 x H'->g x σb H' λσ2 H3=>tt σ2 H3 λb H4=>if b=true then te σ2 H4 λv H5=>Nx (ys++[v]) σ2 H5 else Nx ys σ2 H4)):
  AE (AF X.prog X.w) X.A (newList []) (fun acc s₃=>AE (AF X.prog X.w) X.A (newFunctionEnv scope X.env.globals (clo X.env.cells scope.names []) [] X.env.qual none .none (some X.env)) (fun cenv s₄=>
   codeAny (AF X.prog X.w) X.A (.compStart (.ListComp elt [⟨tg,iter,ifs,0⟩] scope pos) 0 (.ref it) acc {cenv with scope:=relabel scope X.env}) (RR acc cenv.locals) s₄) E s₃) E s:=by
 have nm:∀y∈scope.names,(y.2=NameKind.free->sc.names.lookup y.1=some NameKind.cell)/\y.2≠NameKind.cell/\(y.2=NameKind.local->scope.names.lookup y.1=some NameKind.local):=λy hy=>by have q:=bJ.mp hcn y hy;simp only[aR,jI,gB,beq_eq_false_iff_ne,ne_eq,beq_iff_eq] at q;exact⟨λe=>q.1.1.resolve_left λz=>z e,q.1.2,λe=>q.2.resolve_left λz=>z e⟩
 have fre:∀y∈scope.names,y.2=.free->∃c,X.env.cells.lookup y.1=some c:=λy hy e=>I.ok.has y.1 (.inl<|by show X.env.scope.names.lookup y.1=_;rw[hsc];exact(nm y hy).1 e)
 generalize hcl:clo X.env.cells scope.names []=cl
 have csub:∀x c,cl.lookup x=some c->X.env.cells.lookup x=some c:=λx c e=>by
  rw[<-hcl] at e
  rcases aAz _ _ _ _ _ e with z|⟨z1,z2⟩
  ·simp at z
  ·obtain⟨c',q⟩:=fre _ z1 rfl;rw[q] at z2;rw[q,z2];rfl
 have chas:∀x,((relabel scope X.env).names.lookup x=some .cell\/(relabel scope X.env).names.lookup x=some .free)->∃c,cl.lookup x=some c:=λx e=>by
  rcases qC e with z|z
  ·exact absurd rfl (nm _<|PySem.mem_of_lookup z).2.1
  ·rw[<-hcl];exact aCz _ _ _ _ (.inl<|PySem.mem_of_lookup z)
 have cexi:∀x c,cl.lookup x=some c->c<s.heap.objs.size:=λx c e=>by obtain⟨v,o,ho,_⟩:=I.cell x c<|csub x c e;exact aK ho
 have cexX:∀x c,X.env.cells.lookup x=some c->c<s.heap.objs.size:=λx c e=>by obtain⟨v,o,ho,_⟩:=I.cell x c e;exact aK ho
 have pexX:∀p∈X.pn++pins,p.1<s.heap.objs.size:=λp hp=>aK (I.pin p hp).1
 have flow:∀b∈fp,b<s.heap.objs.size:=λb hb=>by obtain⟨o,ho,_⟩:=T.obj 0 _ st b hb;exact aK ho
 have fstk:∀b∈fp,b∉frs X.stack:=λb hb z=>by
  obtain⟨_,f1,f2,_⟩:=hfp b hb
  rcases aG.mp (I.stkSub b z) with q|q
  ·exact f1 q
  ·exact f2 q
 have hkr:(relabel scope X.env).kind=.function:=hk;refine wpAny_newObj_type<|wpAny_newFunctionEnv (λy hy=>(nm y hy).2.1) (by intro y hy;simp at hy) (λh₁ hns₁ hsb₁=> ?_) hk;dsimp only at hns₁ hsb₁ ⊢;generalize hH2:s.heap.push {cls:=.type "list",dict:=none,data:=.seq ([]:List BA).toArray}=G2 at hns₁ hsb₁ ⊢;have hC:G2.objs.size=s.heap.objs.size+1:=by rw[<-hH2,gG]
 have hDC:s.heap.objs.size≠G2.objs.size:=by rw[hC];exact bG<|aJL _
 have hCle:s.heap.objs.size<=G2.objs.size:=by rw[hC];exact lO _
 have neC:∀b,b<s.heap.objs.size->b≠G2.objs.size:=λb hb=>by rw[hC];exact bG<|Nat.lt_succ_of_lt hb
 have old:∀b o,s.heap.get? b=some o->h₁.get? b=some o:=λb o e=>hsb₁.extBut b o (neC b<|aK e) (aC _<|hH2▸aC _ e)
 have hacc:h₁.get? s.heap.objs.size=some {cls:=.type "list",dict:=none,data:=.seq ([]:List BA).toArray}:=hsb₁.extBut _ _ hDC (aC _<|hH2▸aY _ rfl);have env_eq:({newEnv scope G2.objs.size X.env.globals cl X.env.qual none .none (some X.env) 0 with scope:=relabel scope X.env}:Env)=compEnvC scope cl G2.objs.size X.env:=rfl;generalize hDD:s.heap.objs.size=D at *;generalize hCC:G2.objs.size=C at *
 have okX:(oF X N scope cl C fp s H<|ξ cl C).Ok:=by
  refine⟨I.mod,hkr,I.ok.glob,I.ok.blt, ?_,λx y c a b=>I.ok.inj x y c (csub x c a)<|csub y c b,chas,(λx c z=>nomatch z),λ_=>I.ok.hd hc,I.ok.frames,.inl rfl,λb hb=>⟨neC b<|flow b hb,λx c e=>(hfp b hb).2.2.2.2.1 x c<|csub x c e⟩,I.bs, ?_,λb o e hb=> ?_,fstk,I.stack,I.stkFree⟩
  ·show s.heap.objs.size<=C;rw[hDD];exact hCle
  ·exact aQ I.ok.bsz I.sz
  ·rcases(hfp b hb).2.2.2.1 with z|z
   ·exact I.ok.noex b o e z
   ·exact absurd (aX (aK e)<|aQ I.ok.bsz z)<|eZ _
 have capE:∀ (i:Nat) (x:Str) (v:V),N[i]? =some x->(uF cap σ)[i]? =some (some v)->∃k:Nat,X.N[k]? =some x/\σ[k]? =some (some v)/\sc.names.lookup x=some .cell/\scope.names.lookup x=some .free:=λi x v e1 e2=>by
  unfold jM at hcap;rw[aR] at hcap;unfold uF at e2;rw[bQ] at e2;cases q:cap[i]? with
  |none=>rw[q] at e2;cases e2
  |some o=>
   rw[q] at e2;have e2:(o.bind λk=>(σ[k]?).join)=some v:=cC.inj e2;cases o with
   |none=>cases e2
   |some k=>
    have e2:(σ[k]?).join=some v:=e2
    have mz:(some k,x)∈cap.zip N:=by refine cK (i:=i) ?_;rw[List.getElem?_zip_eq_some];exact⟨q,e1⟩
    have z:=bJ.mp hcap.2 _ mz;simp only[aR,beq_iff_eq] at z;refine⟨k,z.1.1, ?_,z.1.2,z.2⟩;cases w:σ[k]? with
    |none=>rw[w] at e2;cases e2
    |some o'=>rw[w] at e2;have e2:o'=some v:=e2;rw[e2]
 have I0:Inv (oF X N scope cl C fp s H<|ξ cl C) [(D,{cls:=.type "list",dict:=none,data:=.seq ([]:List BA).toArray})] (uF cap σ) H {s with heap:=h₁,toks:=s.toks+([]:List (Str×BA)).length}:=by
  have dfree:H D=none:=I.hok.fresh<|jU hDD;refine⟨okX,rfl,I.bare,Un.kept old,⟨_,hns₁,λi x v e1 e2 e3=> ?_⟩,λx c e=> ?_,I.hok.fresh (by rw[hDD];exact hCle),λx c e=>I.freeC x c<|csub x c e,λp hp=> ?_,I.hok.kept old, ?_⟩
  ·obtain⟨k,q1,q2,q3,q4⟩:=capE i x v e1 e2;have q3':X.env.scope.names.lookup x=some .cell:=by rw[hsc];exact q3
   obtain⟨m,_,hl⟩:=I.loc;obtain⟨u,ru,lk⟩:=hl k x v q1 q2 (.inr<|.inl q3');refine⟨u,ru,.inr ⟨.inl<|gI I.ok.kind q4 q3', ?_⟩⟩
   rcases lk with⟨z,_⟩|⟨_,c,z,ic⟩
   ·have z':X.env.scope.names.lookup x=some .local:=z;rw[q3'] at z';cases z'
   ·obtain⟨c',hc'⟩:=chas x (.inl<|gI I.ok.kind q4 q3');have:=csub x c' hc';rw[z] at this;have ec:c=c':=cC.inj this;subst ec;obtain⟨o,ho,hd⟩:=ic;exact⟨c,hc',o,old c o ho,hd⟩
  ·obtain⟨v,o,ho,hd⟩:=I.cell x c<|csub x c e;exact⟨v,o,old c o ho,hd⟩
  ·have hp':p=(D,{cls:=.type "list",dict:=none,data:=.seq ([]:List BA).toArray}):=by simpa[oF,cxB] using hp
   subst hp';refine⟨hacc,dfree,hDC,λz=> ?_,λv z=>by cases z⟩;have:=I.low D z;rw[hDD] at this;exact eZ _ this
  ·show(uF cap σ).length=N.length;unfold jM at hcap;rw[aR] at hcap;unfold uF;rw[aD];simpa using hcap.1
 have dlow:∀b,b<D->b≠D:=λb hb=>bG hb
 have loop:∀s₃:BB,s₃={s with heap:=h₁,toks:=s.toks+([]:List (Str×BA)).length}->
   codeAny (AF X.prog X.w) X.A (.compLoop (.ListComp elt [⟨tg,iter,ifs,0⟩] scope pos) 0 (.ref it) (.ref D)<|compEnvC scope cl C X.env) (RR (.ref D) C) s₃:=by
  rintro s₃ rfl
  refine aDG (ξ cl C) (λe s' z=> ?_) (λn s'=>∃ (i:Nat) (ys:List V) (σb:St) (H2:Hp) (its:List BA) (nn:Nat),Inv (oF X N scope cl C fp s H<|ξ cl C) [(D,{cls:=.type "list",dict:=none,data:=.seq its.toArray nn})] σb H2 s'/\tn i s'.heap/\(∀b∈fp,H2 b=none)/\Vals ys its/\ys.length<=AH/\W i n ys σb H2) ?_ m0
   ⟨0,[],uF cap σ,H,[],0,I0,T.keep 0 _ _ st λb hb o e=>old b o e,λb hb=>(hfp b hb).1,.nil,bU _,w0⟩
  ·obtain⟨pi,σb,H',I',z'⟩:=hξ cl C e s' z;obtain⟨m4,ns4,_⟩:=id I'.loc;have J0:Inv X pins σ H' s':=I.call' (ch:=fp) I'.os I'.base I'.hok I'.bare λb hb=>⟨(hfp b hb).2.2.2.1,(hfp b hb).2.1,(hfp b hb).2.2.2.2.1,(hfp b hb).2.2.2.2.2⟩
   have hLD:X.env.locals<D:=by rw[<-hDD];exact I.lt
   exact hx cl D C e H' s' z' I'.free (aQ I.sz<|by rw[hDD];exact hCle) (eX<|aX hLD hCle) (λx c e=>neC c<|cexX x c e) (λp hp=>neC _<|pexX p hp) (λz=>absurd (I.low C z)<|by rw[hDD];exact sA.mpr hCle) ⟨m4,ns4⟩ J0
  rintro n s3 ⟨i,ys,σ3,H3,its,nn,I3,st3,fr3,rv3,hlen,w3⟩
  have fpX:∀ {H':Hp}{its':List BA}{nn':Nat},(∀b∈fp,H' b=none)->∀b∈fp,vQ (oF X N scope cl C fp s H<|ξ cl C) [(D,{cls:=.type "list",dict:=none,data:=.seq its'.toArray nn'})] H' b:=λ{H' its' nn'} hn b hb=>by
   refine⟨hn b hb,neC b<|flow b hb,fstk b hb,.inl hb,λx c e=>(hfp b hb).2.2.2.2.1 x c<|csub x c e,λp hp=> ?_⟩
   have hp':p.1=D:=by have q:p∈([]:List (BC×BF))++[(D,{cls:=.type "list",dict:=none,data:=.seq its'.toArray nn'})]:=hp;rw[vK,bX] at q;rw[q]
   rw[hp'];exact Ne.symm (dlow b<|flow b hb)
  rcases turn i n ys σ3 H3 w3 with⟨stop,fin⟩|⟨go,hsz,Nx,hN,step⟩
  ·refine thn (T.done (oF X N scope cl C fp s H<|ξ cl C) rfl rfl rfl rfl i _ s3 σ3 H3 (ξ cl C) I3 (fpX fr3) st3 stop) λr s4 ⟨hr,I4⟩=> ?_
   subst hr;obtain⟨m4,ns4,_⟩:=id I4.loc;have J0:Inv X pins σ H3 s4:=I.call' (ch:=fp) I4.os I4.base I4.hok I4.bare λb hb=>⟨(hfp b hb).2.2.2.1,(hfp b hb).2.1,(hfp b hb).2.2.2.2.1,(hfp b hb).2.2.2.2.2⟩
   obtain⟨pd,pn,_⟩:=I4.pin (D,_)<|aJ _ aM;have hLD:X.env.locals<D:=by rw[<-hDD];exact I.lt
   refine fin D C s4 pn I4.free hDC (aQ I.sz<|by rw[hDD];exact hCle) (eX<|aX hLD hCle) (λx c e=>neC c<|cexX x c e) (λp hp=>neC _<|pexX p hp) (λz=>absurd (I.low C z)<|by rw[hDD];exact sA.mpr hCle) ⟨m4,ns4⟩ ?_;refine J0.track pn (by rw[<-hDD];exact I.sz) (eX hLD) (λx c e=>dlow c<|cexX x c e) (λp hp=>dlow _<|pexX p hp) ?_;exact⟨hlen,its,nn,rv3,pd⟩
  ·refine thn (T.item (oF X N scope cl C fp s H<|ξ cl C) rfl rfl rfl rfl i _ s3 σ3 H3 (ξ cl C) I3 (fpX fr3) st3 go) λr s4 ⟨u,hr,h4⟩=> ?_
   subst hr;refine thn h4 λ_ s5 ⟨x,H5,I5,r5,y5,st5,fr5⟩=> ?_
   have I5':=I5.pinned (fpX fr5)<|T.obj _ _ st5;refine thn (hg cl C _ s5 σ3 H5 x u _ I5' r5<|step x H5 y5) λ_ s6 ⟨σ6,H6,I6,q6⟩=> ?_
   refine thn (ht cl C _ s6 σ6 H6 _ I6 q6) λb s7 ⟨H7,I7,q7⟩=> ?_
   have tnK:∀ {σ7:St}{H7:Hp}{s7:BB},Inv (oF X N scope cl C fp s H<|ξ cl C) ([(D,{cls:=.type "list",dict:=none,data:=.seq its.toArray nn})]++lX fp s5.heap) σ7 H7 s7->tn (i+1) s7.heap/\∀b∈fp,H7 b=none:=λ{σ7 H7 s7} I7=>by refine⟨T.keep _ _ _ st5 λb hb o e=>(I7.pin (b,o)<|aJ _ (aJ _<|gW hb e)).1,λb hb=> ?_⟩;obtain⟨o,e,d⟩:=T.obj _ _ st5 b hb;exact(I7.pin (b,o)<|aJ _ (aJ _<|gW hb e)).2.1
   cases b with
   |false=>have q7':Nx ys σ6 H7:=q7;obtain⟨m',hm,w7⟩:=hN _ _ _ q7';obtain⟨t7,f7⟩:=tnK I7;exact⟨m',hm,i+1,ys,σ6,H7,its,nn,I7.unpinned,t7,f7,rv3,hlen,w7⟩
   |true=>
    have q7':te σ6 H7 λv H5=>Nx (ys++[v]) σ6 H5:=q7
    refine thn (he cl C _ s7 σ6 H7 _ I7 q7') λy s8 ⟨v,H8,I8,r8,q8⟩=> ?_
    obtain⟨m',hm,w8⟩:=hN _ _ _ q8;obtain⟨pd,pn,pL,pf,pc⟩:=I8.pin (D,{cls:=.type "list",dict:=none,data:=.seq its.toArray nn}) (aJ _<|bH _ aM);have hits:its.length=ys.length:=rv3.length.symm;refine wpAny_list_append_plain (items:=its.toArray) ⟨nn,pd⟩ (λh9 pl9 sb9=> ?_) (by rw[aI,hits];exact dW hsz);obtain⟨n9,e9⟩:=pl9
    have e9':h9.get? D=some {cls:=.type "list",dict:=none,data:=.seq (its++[y]).toArray n9}:=by rw[e9];simp
    have I8':Inv (oF X N scope cl C fp s H<|ξ cl C) (lX fp s5.heap) σ6 H8 s8:=I8.pins_of λp hp=>I8.pin p (aJ _<|aJ _ hp)
    have I9:Inv (oF X N scope cl C fp s H<|ξ cl C) (lX fp s5.heap) σ6 H8 {s8 with heap:=h9,toks:=s8.toks}:=I8'.turned (it:=D) (λb o hb e=>sb9.extBut b o hb e) pn hDC (.inr<|by rw[<-hDD];exact aO _) (λx c e=>dlow c<|cexi x c e) λp hp=>by
     have hp':p∈lX fp s5.heap:=by simpa[oF,cxB] using hp
     exact dlow _<|flow _ (rV hp').1
    have tn9:tn (i+1) h9:=T.keep _ _ _ st5 λb hb o e=>(I9.pin (b,o) (aJ _<|gW hb e)).1
    have fr9:∀b∈fp,H8 b=none:=λb hb=>by obtain⟨o,e,d⟩:=T.obj _ _ st5 b hb;exact(I9.pin (b,o) (aJ _<|gW hb e)).2.1
    refine⟨m',hm,i+1,ys++[v],σ6,H8,its++[y],n9,I9.pins_of λp hp=> ?_,tn9,fr9,Vals.append rv3<|.cons r8 .nil,by rw[aU];exact hsz,w8⟩;have hp':p=(D,{cls:=.type "list",dict:=none,data:=.seq (its++[y]).toArray n9}):=bX.mp hp;subst hp';exact⟨e9',pn,pL,pf,λv z=>by cases z⟩
 exact codeAny_compStart_list (loop _ rfl) (T.self _ 0 _ _ _ (T.keep 0 _ _ st λb hb o e=>old b o e)<|loop _ rfl)
theorem aAV{elt:Expr}{ifs:List Expr}{scope:Scope}{pos:Pos}{N:List Str}{cap:List (Option Nat)}{g:TG}{tt:TT}{te:TE}{J:It}{fp:List BC}{it:BC}{tn:Nat->BE->Prop}{E:BA->BB->Prop}{sc:Scope}
  (hc:X.calm=true) (hsc:X.env.scope=sc) (hcn:lC scope sc=true) (hcap:jM N X.N scope sc cap=true) (hk:scope.kind=.function)
  (I:Inv X pins σ H s) (T:aGn X.prog X.w X.K tg J fp it tn) (st:tn 0 s.heap) (hfp:∀b∈fp,vQ X pins H b)
  (hg:∀cl C,PG (cxB X N scope cl C fp s H) tg g) (ht:∀cl C pi s2 σ2 H2 Q,Inv (cxB X N scope cl C fp s H) pi σ2 H2 s2->tt σ2 H2 Q->AE (AF X.prog X.w) X.A (forIn ifs true λc r=>if r=true then do let ok <-isTrue c (compEnvC scope cl C X.env) (eval c<|compEnvC scope cl C X.env);pure (ForInStep.yield ok) else pure (ForInStep.yield r)) (TP (cxB X N scope cl C fp s H) pi σ2 Q) (λ_ _=>False) s2)
  (he:∀cl C,PE (cxB X N scope cl C fp s H) elt te) (W:Nat->Nat->List V->St->Hp->Prop) (m0:Nat) (w0:W 0 m0 [] (uF cap σ) H)
  (RR:BA->BC->Result->BB->Prop)
  (turn:∀i m ys σb H2,W i m ys σb H2→
   (J.stop i H2/\∀D C s',H2 D=none->H2 C=none->D≠C->X.s₀.heap.objs.size<=C->C≠X.env.locals->(∀x c,X.env.cells.lookup x=some c->c≠C)->(∀p∈X.pn++pins,p.1≠C)->C∉frs X.stack->(∃m,s'.heap.Ns C m)->Inv X pins σ (upd H2 D<|.lst ys) s'->RR (.ref D) C (.ok .next) s')\/
   (J.go i H2∧ys.length<AH∧∃Nx:List V→St→Hp→Prop,(∀ys' σ' H',Nx ys' σ' H'→∃m',m'<m∧W (i+1) m' ys' σ' H')∧
    ∀x H',J.yld i H2 x H'->g x σb H' λσ2 H3=>tt σ2 H3 λb H4=>if b=true then te σ2 H4 λv H5=>Nx (ys++[v]) σ2 H5 else Nx ys σ2 H4)):
  AE (AF X.prog X.w) X.A (newList []) (fun acc s₃=>AE (AF X.prog X.w) X.A (newFunctionEnv scope X.env.globals (clo X.env.cells scope.names []) [] X.env.qual none .none (some X.env)) (fun cenv s₄=>
   codeAny (AF X.prog X.w) X.A (.compStart (.ListComp elt [⟨tg,iter,ifs,0⟩] scope pos) 0 (.ref it) acc {cenv with scope:=relabel scope X.env}) (RR acc cenv.locals) s₄) E s₃) E s:=
 aEc (λ_ _ _ _=>False) (λ_ _ _ _ _=>False) hc hsc hcn hcap hk I T st hfp hg ht he W m0 w0 RR (λ_ _ _ _ z=>z.elim) (λ_ _ _ _ _ _ z=>z.elim) turn
end L2
namespace DL
open PySem PySem.Spec PyProof.Rows L2
noncomputable abbrev St:=L2.St
inductive D where
 |non|bl (b:Bool)|int (i:Int)|str (x:Str)|tup (ds:List D)|lst (ds:List D)|dic|scr (ns:List Int)|dki (ks:List Key) (ds:List D)|any (G:V->Hp->Prop)
mutual
noncomputable def Rep(K:aA)(H:Hp):D->V->Prop
 |.non,v=>v=.non
 |.bl b,v=>v=.bl b
 |.int i,v=>v=.int i
 |.str x,v=>v=.str x
 |.tup ds,v=>∃a xs,v=.ref a/\H a=some (.tup xs)/\RepL K H ds xs
 |.lst ds,v=>∃a xs,v=.ref a/\H a=some (.lst xs)/\RepL K H ds xs
 |.dic,v=>∃a,v=.ref a/\H a=some (.dK [])
 |.dki ks ds,v=>∃a xs,v=.ref a/\(∃ob,H a=some (.frz ob (.dK<|ks.zip xs)))/\ks.length=ds.length/\RepL K H ds xs
 |.scr ns,v=>∃a,v=.ref a/\SqL K H a (ns.map V.int)
 |.any G,v=>(∃a,v=.ref a)/\∀H',Same H H'->G v H'
noncomputable def RepL(K:aA)(H:Hp):List D->List V->Prop
 |[],xs=>xs=[]
 |d::ds,xs=>∃y ys,xs=y::ys/\Rep K H d y/\RepL K H ds ys
end
mutual
theorem Rep.mono{K:aA}{H H':Hp}(h:Same H H'):∀ {d:D}{v:V},Rep K H d v->Rep K H' d v
 |.non,_,r=>by simpa only[Rep] using r
 |.bl _,_,r=>by simpa only[Rep] using r
 |.int _,_,r=>by simpa only[Rep] using r
 |.str _,_,r=>by simpa only[Rep] using r
 |.tup ds,v,r=>by simp only[Rep] at r ⊢;obtain⟨a,xs,e,q,rl⟩:=r;exact⟨a,xs,e,h _ _ q,RepL.mono h rl⟩
 |.lst ds,v,r=>by simp only[Rep] at r ⊢;obtain⟨a,xs,e,q,rl⟩:=r;exact⟨a,xs,e,h _ _ q,RepL.mono h rl⟩
 |.dki ks ds,v,r=>by simp only[Rep] at r ⊢;obtain⟨a,xs,e,⟨ob,q⟩,l,rl⟩:=r;exact⟨a,xs,e,⟨ob,h _ _ q⟩,l,RepL.mono h rl⟩
 |.dic,v,r=>by simp only[Rep] at r ⊢;obtain⟨a,e,q⟩:=r;exact⟨a,e,h _ _ q⟩
 |.any G,v,r=>by simp only[Rep] at r ⊢;exact⟨r.1,λH2 s=>r.2 H2<|h.trans s⟩
 |.scr ns,v,r=>by simp only[Rep] at r ⊢;obtain⟨a,e,q⟩:=r;exact⟨a,e,h.seq q⟩
theorem RepL.mono{K:aA}{H H':Hp}(h:Same H H'):∀ {ds:List D}{xs:List V},RepL K H ds xs->RepL K H' ds xs
 |[],_,r=>by simpa only[RepL] using r
 |d::ds,xs,r=>by simp only[RepL] at r ⊢;obtain⟨y,ys,e,q,rl⟩:=r;exact⟨y,ys,e,Rep.mono h q,RepL.mono h rl⟩
end
theorem RepL.len{K:aA}{H:Hp}:∀ {ds:List D}{xs:List V},RepL K H ds xs->xs.length=ds.length
 |[],_,r=>by simp only[RepL] at r;rw[r];rfl
 |d::ds,xs,r=>by simp only[RepL] at r;obtain⟨y,ys,rfl,_,q⟩:=r;simp only[bM,RepL.len q]
theorem RepL.get{K:aA}{H:Hp}:∀ {ds:List D}{xs:List V}{i:Nat}{d:D},RepL K H ds xs->ds[i]? =some d->∃v,xs[i]? =some v/\Rep K H d v
 |[],_,i,d,r,e=>by simp at e
 |d'::ds,xs,i,d,r,e=>by
  simp only[RepL] at r;obtain⟨y,ys,rfl,q,rl⟩:=r;cases i with
  |zero=>simp at e;subst e;exact⟨y,rfl,q⟩
  |succ i=>
   have e':ds[i]? =some d:=by simpa using e
   obtain⟨v,h1,h2⟩:=RepL.get rl e';exact⟨v,by simpa using h1,h2⟩
theorem RepL.app{K:aA}{H:Hp}:∀ {ds es:List D}{xs ys:List V},RepL K H ds xs->RepL K H es ys->RepL K H (ds++es) (xs++ys)
 |[],es,xs,ys,r,q=>by simp only[RepL] at r;subst r;exact q
 |d::ds,es,xs,ys,r,q=>by simp only[RepL] at r;obtain⟨y,zs,rfl,a,rl⟩:=r;show RepL K H (d::(ds++es)) (y::(zs++ys));simp only[RepL];exact⟨y,_,rfl,a,RepL.app rl q⟩
theorem RepL.nil{K:aA}{H:Hp}:RepL K H [] []:=by simp only[RepL]
theorem RepL.cons{K:aA}{H:Hp}{d:D}{ds:List D}{x:V}{xs:List V}(a:Rep K H d x)(b:RepL K H ds xs):RepL K H (d::ds) (x::xs):=by simp only[RepL];exact⟨x,xs,rfl,a,b⟩
theorem RepL.one{K:aA}{H:Hp}{d:D}{x:V}(a:Rep K H d x):RepL K H [d] [x]:=.cons a .nil
theorem RepL.uncons{K:aA}{H:Hp}{d:D}{ds:List D}{xs:List V}(r:RepL K H (d::ds) xs):∃y ys,xs=y::ys/\Rep K H d y/\RepL K H ds ys:=by simpa only[RepL] using r
theorem RepL.take{K:aA}{H:Hp}:∀ {ds:List D}{xs:List V} (n:Nat),RepL K H ds xs->RepL K H (ds.take n) (xs.take n)
 |_,_,0,_=>by simp only[kG];exact .nil
 |[],xs,n+1,r=>by simp only[RepL] at r;subst r;exact .nil
 |d::ds,xs,n+1,r=>by obtain⟨y,ys,rfl,a,rl⟩:=r.uncons;simp only[pB];exact .cons a<|RepL.take n rl
theorem RepL.drop{K:aA}{H:Hp}:∀ {ds:List D}{xs:List V} (n:Nat),RepL K H ds xs->RepL K H (ds.drop n) (xs.drop n)
 |_,_,0,r=>by simpa only[dM] using r
 |[],xs,n+1,r=>by simp only[RepL] at r;subst r;exact .nil
 |d::ds,xs,n+1,r=>by obtain⟨y,ys,rfl,a,rl⟩:=r.uncons;simp only[pD];exact RepL.drop n rl
theorem RepL.set{K:aA}{H:Hp}{d:D}{v:V}(q:Rep K H d v):∀ {ds:List D}{xs:List V} (i:Nat),RepL K H ds xs->RepL K H (ds.set i d) (xs.set i v)
 |[],xs,i,r=>by simp only[RepL] at r;subst r;exact .nil
 |d'::ds,xs,i,r=>by
  obtain⟨y,ys,rfl,a,rl⟩:=r.uncons;cases i with
  |zero=>exact .cons q rl
  |succ i=>exact .cons a<|RepL.set q i rl
inductive Slot where
 |un|val (d:D)|own (l:BC) (ds:List D)|gh (d:D) (G:V->Hp->Prop)|od (l:BC) (ks:List Key) (ds:List D)|ox (ls:List BC) (G:V->Hp->Hp->Prop)
noncomputable def Wr(l:BC):HO->Prop
 |.lst _=>True
 |.dK _=>True
 |.ext φ=>∃o:BF,φ=(λh=>h.get? l=some o)/\∀v,o.data≠ .cell v
 |_=>False
noncomputable def fO(K:aA)(F H:Hp):Slot->Option V->Prop
 |.un,_=>True
 |.val d,o=>∃v,o=some v/\Rep K F d v
 |.own l ds,o=>o=some (.ref l)/\F l=none/\∃xs,H l=some (.lst xs)/\RepL K F ds xs
 |.od l ks ds,o=>o=some (.ref l)/\F l=none/\∃xs,H l=some (.dK<|ks.zip xs)/\ks.length=ds.length/\RepL K F ds xs
 |.gh d G,o=>∃v,o=some v/\Rep K F d v/\∀F',Same F F'->G v F'
 |.ox ls G,o=>∃v,o=some v/\(∀l∈ls,F l=none/\∃ob,H l=some ob/\Wr l ob)/\∀F' H',Same F F'->(∀l∈ls,∀ob,H l=some ob->H' l=some ob)->G v F' H'
noncomputable def SlotsOk(K:aA)(F H:Hp):List Slot->St->Prop
 |[],σ=>σ=[]
 |z::zs,σ=>∃o r,σ=o::r/\fO K F H z o/\SlotsOk K F H zs r
noncomputable def gH:Slot->List BC
 |.own l _=>[l]
 |.od l _ _=>[l]
 |.ox ls _=>ls
 |_=>[]
noncomputable def cH(sd:List Slot):List BC:=sd.flatMap gH
theorem oW(z:Slot)(zs:List Slot):cH (z::zs)=gH z++cH zs:=rfl
structure StF(K:aA)(H₀ F H:Hp)(σ:St)(sd:List Slot):Prop where
 base:Same H₀ F
 sub:Same F H
 smp:Smp H
 slots:SlotsOk K F H sd σ
 nd:(cH sd).Nodup
variable {K:aA}{H₀ F F' H H':Hp}{σ:St}{sd:List Slot}
theorem SlotsOk.get:∀ {sd:List Slot}{σ:St}{i:Nat}{z:Slot},SlotsOk K F H sd σ->sd[i]? =some z->∃o,σ[i]? =some o/\fO K F H z o
 |[],_,_,_,_,e=>by simp at e
 |z'::zs,σ,i,z,h,e=>by
  obtain⟨o,r,rfl,a,b⟩:=h;cases i with
  |zero=>simp at e;subst e;exact⟨o,rfl,a⟩
  |succ i=>obtain⟨o',h1,h2⟩:=SlotsOk.get (i:=i) b (by simpa using e);exact⟨o',by simpa using h1,h2⟩
theorem SlotsOk.set{z:Slot}{o:Option V}(q:fO K F H z o):∀ {sd:List Slot}{σ:St} (i:Nat),SlotsOk K F H sd σ->SlotsOk K F H (sd.set i z) (σ.set i o)
 |[],_,_,h=>by have h:_=_:=h;subst h;rfl
 |z'::zs,σ,i,h=>by
  obtain⟨o',r,rfl,a,b⟩:=h;cases i with
  |zero=>exact⟨o,r,rfl,q,b⟩
  |succ i=>exact⟨o',_,rfl,a,SlotsOk.set q i b⟩
theorem SlotsOk.mono(hF:Same F F'):∀ {sd:List Slot}{σ:St},(∀l∈cH sd,F' l=none/\∀xs,H l=some xs->H' l=some xs)->SlotsOk K F H sd σ->SlotsOk K F' H' sd σ
 |[],_,_,h=>h
 |z::zs,σ,ho,h=>by
  obtain⟨o,r,rfl,a,b⟩:=h;refine⟨o,r,rfl, ?_,SlotsOk.mono hF (λl hl=>ho l ?_) b⟩
  ·cases z with
   |un=>trivial
   |val d=>obtain⟨v,e,q⟩:=a;exact⟨v,e,q.mono hF⟩
   |gh d G=>obtain⟨v,e,q,g⟩:=a;exact⟨v,e,q.mono hF,λF2 s2=>g F2<|hF.trans s2⟩
   |own l ds=>obtain⟨e,n,xs,q,rl⟩:=a;have:=ho l (by simp[oW,gH]);exact⟨e,this.1,xs,this.2 _ q,rl.mono hF⟩
   |od l ks ds=>obtain⟨e,n,xs,q,ln,rl⟩:=a;have:=ho l (by simp[oW,gH]);exact⟨e,this.1,xs,this.2 _ q,ln,rl.mono hF⟩
   |ox ls G=>
    obtain⟨v,e,h,g⟩:=a;have ho':∀l∈ls,F' l=none/\∀xs,H l=some xs->H' l=some xs:=λl hl=>ho l<|bH _ hl
    exact⟨v,e,λl hl=>⟨(ho' l hl).1,let ⟨ob,q,w⟩:=(h l hl).2;⟨ob,(ho' l hl).2 _ q,w⟩⟩,λF2 H2 s2 k=>g F2 H2 (hF.trans s2) λl hl ob q=>k l hl ob<|(ho' l hl).2 _ q⟩
  ·exact aJ _ hl
theorem SlotsOk.owns:∀ {sd:List Slot}{σ:St}{l:BC},SlotsOk K F H sd σ->l∈cH sd->F l=none/\∃ob,H l=some ob/\Wr l ob
 |[],_,_,_,e=>by simp[cH] at e
 |z::zs,σ,l,h,e=>by
  obtain⟨o,r,rfl,a,b⟩:=h
  rcases aW.mp (show l∈gH z++cH zs from e) with e|e
  ·cases z with
   |un=>cases e
   |val d=>cases e
   |gh d G=>cases e
   |own l' ds=>rw[bX.mp e];obtain⟨_,n,xs,q,_⟩:=a;exact⟨n,_,q,trivial⟩
   |od l' ks ds=>rw[bX.mp e];obtain⟨_,n,xs,q,_⟩:=a;exact⟨n,_,q,trivial⟩
   |ox ls G=>obtain⟨v,_,h,_⟩:=a;exact h l e
  ·exact SlotsOk.owns b e
theorem StF.lay{p:BC}{o:HO}(S:StF K H₀ F H σ sd)(hp:H p=none)(ho:aMq o):StF K H₀ (upd F p o) (upd H p o) σ sd/\Same F (upd F p o):=by
 have fp:F p=none:=S.sub.free hp;have s1:Same F (upd F p o):=λb u e=>by rw[bK<|cF e fp];exact e
 refine⟨⟨λb u e=>s1 _ _<|S.base _ _ e,λb u e=> ?_,λb u e=> ?_,S.slots.mono s1 λl hl=> ?_,S.nd⟩,s1⟩
 ·by_cases h:b=p
  ·subst h;rw[bR] at e ⊢;exact e
  ·rw[bK h] at e ⊢;exact S.sub _ _ e
 ·by_cases h:b=p
  ·subst h;rw[bR] at e;cases e;exact ho
  ·rw[bK h] at e;exact S.smp _ _ e
 ·obtain⟨n,xs,q,_⟩:=S.slots.owns hl;have hne:l≠p:=cF q hp;exact⟨by rw[bK hne];exact n,λys e=>by rw[bK hne];exact e⟩
theorem StF.layO{p:BC}{xs:List V}(S:StF K H₀ F H σ sd)(hp:H p=none):StF K H₀ F (upd H p<|.lst xs) σ sd/\F p=none/\p∉cH sd:=by
 have fp:F p=none:=S.sub.free hp;refine⟨⟨S.base,λb u e=> ?_,λb u e=> ?_,S.slots.mono (Same.refl _) λl hl=> ?_,S.nd⟩,fp,λhl=> ?_⟩
 ·rw[bK<|cF e fp];exact S.sub _ _ e
 ·by_cases h:b=p
  ·subst h;rw[bR] at e;cases e;trivial
  ·rw[bK h] at e;exact S.smp _ _ e
 ·obtain⟨n,ys,q,_⟩:=S.slots.owns hl;have hne:l≠p:=cF q hp;exact⟨n,λys e=>by rw[bK hne];exact e⟩
 ·obtain⟨n,ys,q,_⟩:=S.slots.owns hl;rw[hp] at q;cases q
theorem StF.freeze{p:BC}{xs:List V}(S:StF K H₀ F H σ sd)(hp:H p=some (.lst xs))(fp:F p=none)(ho:p∉cH sd):StF K H₀ (upd F p<|.lst xs) H σ sd/\Same F (upd F p<|.lst xs):=by
 have s1:Same F (upd F p<|.lst xs):=λb u e=>by rw[bK<|cF e fp];exact e
 refine⟨⟨λb u e=>s1 _ _<|S.base _ _ e,λb u e=> ?_,S.smp,S.slots.mono s1 λl hl=> ?_,S.nd⟩,s1⟩
 ·by_cases h:b=p
  ·subst h;rw[bR] at e;rw[hp];exact e
  ·rw[bK h] at e;exact S.sub _ _ e
 ·obtain⟨n,ys,q,_⟩:=S.slots.owns hl;have hne:l≠p:=λz=>ho (z▸hl)
  exact⟨by rw[bK hne];exact n,λys e=>e⟩
theorem SlotsOk.len:∀ {sd:List Slot}{σ:St},SlotsOk K F H sd σ->σ.length=sd.length
 |[],_,h=>by have h:_=_:=h;rw[h];rfl
 |z::zs,σ,h=>by obtain⟨o,r,rfl,_,b⟩:=h;simp[SlotsOk.len b]
inductive R where
 |val (d:D)|own (ds:List D)|bor (ds:List D)|pr (d:D) (ls:List D)|ox (G:V->List BC->Hp->Hp->Prop)
def LOk(K:aA)(F H:Hp)(sd:List Slot)(v:V)(ds:List D):Prop:=
 ∃l xs,v=.ref l/\H l=some (.lst xs)/\RepL K F ds xs/\(F l=some (.lst xs)\/Slot.own l ds∈sd)
noncomputable def ResOk(K:aA)(F H:Hp)(sd:List Slot):R->V->Prop
 |.val d,v=>Rep K F d v
 |.own ds,v=>∃l xs,v=.ref l/\F l=none/\H l=some (.lst xs)/\RepL K F ds xs/\l∉cH sd
 |.bor ds,v=>LOk K F H sd v ds
 |.pr d ls,v=>∃t l xs y,v=.ref t/\F t=some (.tup [y,.ref l])/\Rep K F d y/\F l=none/\H l=some (.lst xs)/\RepL K F ls xs/\l∉cH sd
 |.ox G,v=>∃ls:List BC,ls.Nodup/\(∀l∈ls,F l=none/\(∃ob,H l=some ob/\Wr l ob)/\l∉cH sd)/\∀F' H',Same F F'->(∀l∈ls,∀ob,H l=some ob->H' l=some ob)->G v ls F' H'
noncomputable def R.keeps:R->Prop
 |.own _=>False
 |.pr _ _=>False
 |.ox _=>False
 |_=>True
variable {r:R}{v:V}
theorem ResOk.keep(hr:r.keeps)(h:ResOk K F H sd r v)(S':StF K H₀ F' H' σ sd)(s:Same F F'):ResOk K F' H' sd r v:=by
 cases r with
 |val d=>exact Rep.mono s h
 |own ds=>exact hr.elim
 |pr d ls=>exact hr.elim
 |ox G=>exact hr.elim
 |bor ds=>
  obtain⟨l,xs,e,hl,rl,q⟩:=h
  rcases q with q|q
  ·exact⟨l,xs,e,S'.sub _ _<|s _ _ q,rl.mono s,.inl<|s _ _ q⟩
  ·obtain⟨i,hi⟩:=List.getElem?_of_mem q;obtain⟨o,_,e2,_,ys,h1,h2⟩:=S'.slots.get hi;exact⟨l,ys,e,h1,h2,.inr q⟩
structure PEd(X:Cx)(sd:List Slot)(e:Expr)(r:R):Prop where
 run:∀ (σ:St) (F H:Hp),StF X.K X.B₀ F H σ sd->
 wE X e σ H λv H'=>∃F',StF X.K X.B₀ F' H' σ sd/\Same F F'/\ResOk X.K F' H' sd r v
instance {X:Cx}{sd:List Slot}{e:Expr}{r:R}:CoeFun (PEd X sd e r) (fun _=>∀ (σ:St) (F H:Hp),StF X.K X.B₀ F H σ sd→
 wE X e σ H λv H'=>∃F',StF X.K X.B₀ F' H' σ sd/\Same F F'/\ResOk X.K F' H' sd r v):=⟨PEd.run⟩
structure PTd(X:Cx)(sd:List Slot)(e:Expr)(b:Bool):Prop where
 run:∀ (σ:St) (F H:Hp),StF X.K X.B₀ F H σ sd->
 wT X e σ H λc H'=>c=b/\∃F',StF X.K X.B₀ F' H' σ sd/\Same F F'
instance {X:Cx}{sd:List Slot}{e:Expr}{b:Bool}:CoeFun (PTd X sd e b) (fun _=>∀ (σ:St) (F H:Hp),StF X.K X.B₀ F H σ sd→
 wT X e σ H λc H'=>c=b/\∃F',StF X.K X.B₀ F' H' σ sd/\Same F F'):=⟨PTd.run⟩
structure PWd(X:Cx)(sd:List Slot)(e:Expr)(b:Bool):Prop where
 run:∀ (σ:St) (F H:Hp),StF X.K X.B₀ F H σ sd->
 wW X e σ H λc H'=>c=b/\∃F',StF X.K X.B₀ F' H' σ sd/\Same F F'
instance {X:Cx}{sd:List Slot}{e:Expr}{b:Bool}:CoeFun (PWd X sd e b) (fun _=>∀ (σ:St) (F H:Hp),StF X.K X.B₀ F H σ sd→
 wW X e σ H λc H'=>c=b/\∃F',StF X.K X.B₀ F' H' σ sd/\Same F F'):=⟨PWd.run⟩
inductive RsOk(K:aA)(F H:Hp)(sd:List Slot):List R->List V->Prop
 |nil:RsOk K F H sd [] []
 |cons {r v rs vs}:ResOk K F H sd r v->RsOk K F H sd rs vs->RsOk K F H sd (r::rs) (v::vs)
structure PAd(X:Cx)(sd:List Slot)(es:List Expr)(rs:List R):Prop where
 run:∀ (σ:St) (F H:Hp),StF X.K X.B₀ F H σ sd->
 wA X es σ H λvs H'=>∃F',StF X.K X.B₀ F' H' σ sd/\Same F F'/\RsOk X.K F' H' sd rs vs
instance {X:Cx}{sd:List Slot}{es:List Expr}{rs:List R}:CoeFun (PAd X sd es rs) (fun _=>∀ (σ:St) (F H:Hp),StF X.K X.B₀ F H σ sd→
 wA X es σ H λvs H'=>∃F',StF X.K X.B₀ F' H' σ sd/\Same F F'/\RsOk X.K F' H' sd rs vs):=⟨PAd.run⟩
structure fW where
 nx:List Slot->Prop
 rt:R->Prop
 bk:List Slot->Prop:=λ_=>False
 ct:List Slot->Prop:=λ_=>False
def aBI(K:aA)(H₀ H:Hp)(r:R)(v:V):Prop:=∃F,Same H₀ F/\Same F H/\Smp H/\ResOk K F H [] r v
noncomputable def lft(X:Cx)(F₀:Hp)(E:fW):sJ where
 nx:=λσ H=>∃sd F,StF X.K X.B₀ F H σ sd/\Same F₀ F/\E.nx sd
 rt:=λv H=>∃r,aBI X.K X.B₀ H r v/\E.rt r
 bk:=λσ H=>∃sd F,StF X.K X.B₀ F H σ sd/\Same F₀ F/\E.bk sd
 ct:=λσ H=>∃sd F,StF X.K X.B₀ F H σ sd/\Same F₀ F/\E.ct sd
structure PSd(X:Cx)(sd:List Slot)(sts:List BG)(E:fW):Prop where
 run:∀ (σ:St) (F H:Hp),StF X.K X.B₀ F H σ sd->wSs X sts (lft X F E) σ H
instance {X:Cx}{sd:List Slot}{sts:List BG}{E:fW}:CoeFun (PSd X sd sts E) (λ_=>∀ (σ:St) (F H:Hp),StF X.K X.B₀ F H σ sd->wSs X sts (lft X F E) σ H):=⟨PSd.run⟩
structure PSd1(X:Cx)(sd:List Slot)(st:BG)(E:fW):Prop where
 run:∀ (σ:St) (F H:Hp),StF X.K X.B₀ F H σ sd->wS X st (lft X F E) σ H
instance {X:Cx}{sd:List Slot}{st:BG}{E:fW}:CoeFun (PSd1 X sd st E) (λ_=>∀ (σ:St) (F H:Hp),StF X.K X.B₀ F H σ sd->wS X st (lft X F E) σ H):=⟨PSd1.run⟩
variable {X:Cx}{e a b c:Expr}{es:List Expr}{pos:Pos}{ra rb:R}{d:D}{ds:List D}
theorem PEd.val(h:PEd X sd e (.own ds)):PEd X sd e (.val<|.lst ds):=.mk λσ F H S=>(h σ F H S).imp λv H' ⟨F',S',s,l,xs,e,n,q,rl,no⟩=>by obtain⟨S2,s2⟩:=S'.freeze q n no;refine⟨_,S2,s.trans s2, ?_⟩;show Rep _ _ _ _;simp only[Rep];exact⟨l,xs,e,bR,rl.mono s2⟩
theorem PEd.bor(h:PEd X sd e (.val<|.lst ds)):PEd X sd e (.bor ds):=.mk λσ F H S=>(h σ F H S).imp λv H' ⟨F',S',s,q⟩=>by have q:Rep _ _ _ _:=q;simp only[Rep] at q;obtain⟨l,xs,e,q,rl⟩:=q;exact⟨F',S',s,l,xs,e,S'.sub _ _ q,rl,.inl q⟩
theorem aKt(i:Nat){x:Str}(hs:sd[i]? =some (.val d))(h:PE X (.Name x pos) (mU i)):PEd X sd (.Name x pos) (.val d):= .mk fun σ F H S=>h.to (by
 obtain⟨o,h1,v,h2,q⟩:=S.slots.get hs
 exact⟨v,by rw[h1,h2],F,S,Same.refl _,q⟩)
theorem fJ(i:Nat){x:Str}{l:BC}(hs:sd[i]? =some (.own l ds))(h:PE X (.Name x pos) (mU i)):PEd X sd (.Name x pos) (.bor ds):= .mk fun σ F H S=>h.to (by
 obtain⟨o,h1,h2,n,xs,q,rl⟩:=S.slots.get hs
 exact⟨.ref l,by rw[h1,h2],F,S,Same.refl _,l,xs,rfl,q,rl,.inr (cK hs)⟩)
theorem aP{i j}:PEd X sd (.Constant (.int i) j pos) (.val<|.int i):=.mk λσ F H S=>pe_int.to ⟨F,S,Same.refl _,by simp only[ResOk,Rep]⟩
theorem kT{i j}:PEd X sd (.Constant (.bool i) j pos) (.val<|.bl i):=.mk λσ F H S=>pe_bl.to ⟨F,S,Same.refl _,by simp only[ResOk,Rep]⟩
theorem eV{j}:PEd X sd (.Constant .none j pos) (.val .non):=.mk λσ F H S=>pe_non.to ⟨F,S,Same.refl _,by simp only[ResOk,Rep]⟩
theorem bO{i j}:PEd X sd (.Constant (.str i) j pos) (.val<|.str i):=.mk λσ F H S=>pe_str.to ⟨F,S,Same.refl _,by simp only[ResOk,Rep]⟩
theorem pU{x:Str}{i:Int}{u:BA}(hg:Gl X x)(hm:X.mg x=some u)(ru:RelV (.int i) u)(hd:(x==("__debug__":Str))=false:=by decide):PEd X sd (.Name x pos) (.val<|.int i):=.mk λσ F H S=>(pG hg hm ru hd).to ⟨F,S,Same.refl _,by simp only[ResOk,Rep]⟩
theorem aN:PAd X sd [] []:=.mk λσ F H S=>pa_nil.to ⟨F,S,Same.refl _,.nil⟩
theorem aB{rs:List R}(h1:PEd X sd e r)(h2:PAd X sd es rs)(hk:r.keeps:=by trivial)(hs:AB (e::es) X.env=(false,eval e X.env)::AB es X.env:=by rfl):PAd X sd (e::es) (r::rs):=.mk λσ F H S=>(eF dH xN hs).to<|(h1 σ F H S).imp λv H1 ⟨F1,S1,s1,q1⟩=>(h2 σ F1 H1 S1).imp λvs H2 ⟨F2,S2,s2,q2⟩=>⟨F2,S2,s1.trans s2,.cons (q1.keep hk S2 s2) q2⟩
theorem RsOk.vals{K:aA}{F H:Hp}:∀ {ds:List D}{vs:List V},RsOk K F H sd (ds.map R.val) vs->RepL K F ds vs
 |[],_,.nil=>.nil
 |_::_,_,.cons q t=>.cons q<|RsOk.vals t
theorem aGz{x1}(h:PAd X sd es (ds.map R.val))(hl:ds.length<=10000):PEd X sd (.Tuple es x1 pos) (.val<|.tup ds):=.mk λσ F H S=>
 (aHi xN).to ((h σ F H S).imp fun vs H1 ⟨F1,S1,s1,q1⟩=>by
  have rl:=q1.vals;refine⟨by rw[rl.len];exact dW<|fQ hl,λp hp=> ?_⟩;obtain⟨S2,s2⟩:=S1.lay (o:=.tup vs) hp trivial;refine⟨_,S2,s1.trans s2, ?_⟩;simp only[ResOk,Rep]
  exact⟨p,vs,rfl,bR,rl.mono s2⟩)
theorem kM(h:PAd X sd es (ds.map R.val))(hl:ds.length<=10000):PEd X sd (.List es pos) (.own ds):=.mk λσ F H S=>
 (aLf xN).to ((h σ F H S).imp fun vs H1 ⟨F1,S1,s1,q1⟩=>by
  have rl:=q1.vals;refine⟨by rw[rl.len];exact dW<|fQ hl,λp hp=> ?_⟩;obtain⟨S2,fp,no⟩:=S1.layO (xs:=vs) hp
  exact⟨_,S2,s1,p,vs,rfl,fp,bR,rl,no⟩)
theorem rP{op:Operator}{r2:R2}(ho:OpR X (Af op) r2)(ha:PEd X sd a ra)(hb:PEd X sd b rb)(hk:ra.keeps)
  (h:∀ (σ:St) (F H:Hp) (v u:V) (Q:VK),StF X.K X.B₀ F H σ sd->ResOk X.K F H sd ra v->ResOk X.K F H sd rb u->(∀w F' H',StF X.K X.B₀ F' H' σ sd->Same F F'->ResOk X.K F' H' sd r w->Q w H')->r2 v u H Q):
  PEd X sd (.BinOp a op b pos) r:=.mk λσ F H S=>
 (aNJ ho dH dH).to ((ha σ F H S).imp λv H1 ⟨F1,S1,s1,q1⟩=>(hb σ F1 H1 S1).imp λu H2 ⟨F2,S2,s2,q2⟩=>h σ F2 H2 v u _ S2 (q1.keep hk S2 s2) q2 λw F' H' S' s' q'=>⟨F',S',(s1.trans s2).trans s',q'⟩)
theorem sV{op:CmpOp}{r2:R2}(ho:OpR X (AK op) r2)(ha:PEd X sd a ra)(hb:PEd X sd b rb)(hk:ra.keeps)(hm:AQ op b=false){k:Bool}
  (h:∀ (σ:St) (F H:Hp) (v u:V) (Q:VK),StF X.K X.B₀ F H σ sd->ResOk X.K F H sd ra v->ResOk X.K F H sd rb u->(∀F' H',StF X.K X.B₀ F' H' σ sd->Same F F'->Q (.bl k) H')->r2 v u H Q):
  PEd X sd (.Compare a [op] [b] pos) (.val<|.bl k):=.mk λσ F H S=>
 (aCu ho dH dH hm).to ((ha σ F H S).imp λv H1 ⟨F1,S1,s1,q1⟩=>(hb σ F1 H1 S1).imp λu H2 ⟨F2,S2,s2,q2⟩=>h σ F2 H2 v u _ S2 (q1.keep hk S2 s2) q2 λF' H' S' s'=>⟨F',S',(s1.trans s2).trans s',by simp only[ResOk,Rep]⟩)
theorem dX{k:Bool}(h:PEd X sd e (.val<|.bl k))(he:∀whole,isTrue e X.env whole=(do let v <-whole;standAt e.pos;holding [v] (truthy v)):=by intro _;rfl):PTd X sd e k:=.mk λσ F H S=>
 (aKX dH he).to ((h σ F H S).imp fun v H1 ⟨F1,S1,s1,q1⟩=>by
  simp only[ResOk,Rep] at q1
  exact⟨k,q1,rfl,F1,S1,s1⟩)
theorem fY{op:CmpOp}{r2:R2}(ho:OpR X (AK op) r2)(ha:PEd X sd a ra)(hb:PEd X sd b rb)(hk:ra.keeps)(hm:AQ op b=false){k:Bool}
  (h:∀ (σ:St) (F H:Hp) (v u:V) (Q:VK),StF X.K X.B₀ F H σ sd->ResOk X.K F H sd ra v->ResOk X.K F H sd rb u->(∀F' H',StF X.K X.B₀ F' H' σ sd->Same F F'->Q (.bl k) H')->r2 v u H Q):
  PTd X sd (.Compare a [op] [b] pos) k:=.mk λσ F H S=>
 (aCU ho dH dH hm).to ((ha σ F H S).imp λv H1 ⟨F1,S1,s1,q1⟩=>(hb σ F1 H1 S1).imp λu H2 ⟨F2,S2,s2,q2⟩=>h σ F2 H2 v u _ S2 (q1.keep hk S2 s2) q2 λF' H' S' s'=>⟨k,rfl,rfl,F',S',(s1.trans s2).trans s'⟩)
variable {st:BG}{rest:List BG}{E:fW}
theorem wS.imp{D D':sJ}(h:wS X st D σ H)(k1:∀σ H,D.nx σ H->D'.nx σ H)(k2:∀v H,D.rt v H->D'.rt v H)(k3:∀σ H,D.bk σ H->D'.bk σ H)(k4:∀σ H,D.ct σ H->D'.ct σ H):wS X st D' σ H:=
 λpins s I=>thn (h pins s I) λf s' q=>q.imp k1 k2 k3 k4
theorem dP{k:Bool}(h:PTd X sd e k):PTd X sd (.UnaryOp .Not e pos) (!k):=.mk λσ F H S=>(aKR aJz).to<|(h σ F H S).imp λc H' ⟨e,q⟩=>⟨by rw[e],q⟩
theorem aAr{k:Bool}(h:PTd X sd a k):PWd X sd (.BoolOp .And [a] pos) k:=.mk λσ F H S=>(aHS aJz).to<|h σ F H S
theorem fU{k:Bool}(h:PTd X sd a k):PWd X sd (.BoolOp .Or [a] pos) k:=.mk λσ F H S=>(aLt aJz).to<|h σ F H S
theorem aCo{k j:Bool}(h:PTd X sd a k)(h2:k=true->PWd X sd (.BoolOp .And (b::es) pos) j):PWd X sd (.BoolOp .And (a::b::es) pos) (k&&j):=.mk λσ F H S=>
 (aLP aJz aMP).to ((h σ F H S).imp fun c H' ⟨e,F',S',s'⟩=>by
  subst e;cases c with
  |false=>exact aJE ⟨rfl,F',S',s'⟩
  |true=>exact aJy ((h2 rfl σ F' H' S').imp λc2 H2 ⟨e2,F2,S2,s2⟩=>⟨by rw[e2];rfl,F2,S2,s'.trans s2⟩))
theorem dN{k j:Bool}(h:PTd X sd a k)(h2:k=false->PWd X sd (.BoolOp .Or (b::es) pos) j):PWd X sd (.BoolOp .Or (a::b::es) pos) (k||j):=.mk λσ F H S=>
 (aNq aJz aMP).to ((h σ F H S).imp fun c H' ⟨e,F',S',s'⟩=>by
  subst e;cases c with
  |true=>exact aJy ⟨rfl,F',S',s'⟩
  |false=>exact aJE ((h2 rfl σ F' H' S').imp λc2 H2 ⟨e2,F2,S2,s2⟩=>⟨by rw[e2];rfl,F2,S2,s'.trans s2⟩))
theorem PWd.pt{k:Bool}(h:PWd X sd e k):PTd X sd e k:=.mk λσ F H S=>(aMP).pt.to<|h σ F H S
theorem mT{op}{r:R}(h:PEd X sd a r):PEd X sd (.BoolOp op [a] pos) r:=.mk λσ F H S=>(aLF dH).to<|h σ F H S
theorem lP{k j:Bool}(h:PEd X sd a (.val<|.bl k))(h2:k=true->PEd X sd (.BoolOp .And (b::es) pos) (.val<|.bl j)):PEd X sd (.BoolOp .And (a::b::es) pos) (.val (.bl<|k&&j)):=.mk λσ F H S=>
 (aLv dH dH).to ((h σ F H S).imp fun v H' ⟨F',S',s',q⟩=>by
  simp only[ResOk,Rep] at q;subst q;refine⟨k,rfl, ?_⟩;cases k with
  |false=>exact aJE ⟨F',S',s',by simp only[ResOk,Rep,oJ]⟩
  |true=>exact aJy ((h2 rfl σ F' H' S').imp λv2 H2 ⟨F2,S2,s2,q2⟩=>⟨F2,S2,s'.trans s2,by simpa only[rD] using q2⟩))
theorem tU{k:Bool}(h:PEd X sd a (.val<|.bl k)):PEd X sd (.UnaryOp .Not a pos) (.val (.bl<|!k)):=.mk λσ F H S=>
 (aLE dH).to ((h σ F H S).imp fun v H' ⟨F',S',s',q⟩=>by
  simp only[ResOk,Rep] at q
  exact⟨k,q,F',S',s',by simp only[ResOk,Rep]⟩)
theorem iJ{op:Operator}{g:Int->Int->Int}{i j:Int}(ho:OpR X (Af op) (rI0 λi j=>.int<|g i j))(ha:PEd X sd a (.val<|.int i))(hb:PEd X sd b (.val<|.int j)):PEd X sd (.BinOp a op b pos) (.val (.int<|g i j)):=
 rP ho ha hb trivial λσ F H v u Q S q1 q2 k=>by simp only[ResOk,Rep] at q1 q2;exact⟨i,j,q1,q2,k _ F H S (Same.refl _)<|by simp only[ResOk,Rep]⟩
theorem cP{op:Operator}{g:Int->Int->Int}{C:Int->Int->Prop}{i j:Int}(ho:OpR X (Af op) (rI C λi j=>.int<|g i j))(ha:PEd X sd a (.val<|.int i))(hb:PEd X sd b (.val<|.int j))(hc:C i j):PEd X sd (.BinOp a op b pos) (.val (.int<|g i j)):=
 rP ho ha hb trivial λσ F H v u Q S q1 q2 k=>by simp only[ResOk,Rep] at q1 q2;exact⟨i,j,q1,q2,hc,k _ F H S (Same.refl _)<|by simp only[ResOk,Rep]⟩
theorem fV:OpR X (Af .Mult) (rI IntMulOk λi j=>.int<|i*j):=opI λ_ _ _ _ _ _ _ hc q=>mul_int q hc
theorem aAU:OpR X (Af .FloorDiv) (rI (λ_ j=>0<j/\j.natAbs.log2<9000) λi j=>.int<|i / j):=opI λi j _ _ _ _ _ hc q=>by have h1:(0:Int)<j:=hc.1;exact floordiv_int (by omega) (by rw[Int.fdiv_eq_ediv_of_nonneg i<|by omega];exact q) (.inl<|PyProof.noPylong_of_log2 hc.2)
theorem aHM{op:CmpOp}{g:Int->Int->Bool}{i j:Int}(ho:OpR X (AK op) (rI0 λi j=>.bl<|g i j))(ha:PEd X sd a (.val<|.int i))(hb:PEd X sd b (.val<|.int j))(hm:AQ op b=false):PEd X sd (.Compare a [op] [b] pos) (.val (.bl<|g i j)):=
 sV ho ha hb trivial hm λσ F H v u Q S q1 q2 k=>by simp only[ResOk,Rep] at q1 q2;exact⟨i,j,q1,q2,k F H S<|Same.refl _⟩
theorem iU{op:CmpOp}{g:Int->Int->Bool}{i j:Int}(ho:OpR X (AK op) (rI0 λi j=>.bl<|g i j))(ha:PEd X sd a (.val<|.int i))(hb:PEd X sd b (.val<|.int j))(hm:AQ op b=false):PTd X sd (.Compare a [op] [b] pos) (g i j):=
 fY ho ha hb trivial hm λσ F H v u Q S q1 q2 k=>by simp only[ResOk,Rep] at q1 q2;exact⟨i,j,q1,q2,k F H S<|Same.refl _⟩
noncomputable def flt:D->Option V
 |.non=>some .non
 |.bl b=>some<|.bl b
 |.int i=>some<|.int i
 |.str x=>some<|.str x
 |_=>none
theorem sP{x:V}(h:flt d=some x)(q:Rep K H d v):v=x:=by
 cases d with
 |non=>simp only[Rep] at q;simp only[flt] at h;rw[q];exact cC.inj h
 |bl=>simp only[Rep] at q;simp only[flt] at h;rw[q];exact cC.inj h
 |int=>simp only[Rep] at q;simp only[flt] at h;rw[q];exact cC.inj h
 |str=>simp only[Rep] at q;simp only[flt] at h;rw[q];exact cC.inj h
 |tup=>simp only[flt] at h;cases h
 |lst=>simp only[flt] at h;cases h
 |dic=>simp only[flt] at h;cases h
 |dki=>simp only[flt] at h;cases h
 |any=>simp only[flt] at h;cases h
 |scr=>simp only[flt] at h;cases h
theorem iA{d1 d2:D}{x y:V}{k:Bool}(ha:PEd X sd a (.val d1))(hb:PEd X sd b (.val d2))(h1:flt d1=some x)(h2:flt d2=some y)(hs:aMn x y=true)(hk:decide (x=y)=k):PTd X sd (.Compare a [.Eq] [b] pos) k:=
 fY aKo ha hb trivial (eK _) λσ F H v u Q S q1 q2 kk=>by have e1:=sP h1 q1;have e2:=sP h2 q2;subst e1 e2;exact⟨hs,by rw[hk];exact kk F H S<|Same.refl _⟩
theorem jZ{d1 d2:D}{x y:V}{k:Bool}(ha:PEd X sd a (.val d1))(hb:PEd X sd b (.val d2))(h1:flt d1=some x)(h2:flt d2=some y)(hs:aMn x y=true)(hk:(!decide (x=y))=k):PTd X sd (.Compare a [.NotEq] [b] pos) k:=
 fY aNu ha hb trivial (eK _) λσ F H v u Q S q1 q2 kk=>by have e1:=sP h1 q1;have e2:=sP h2 q2;subst e1 e2;exact⟨hs,by rw[hk];exact kk F H S<|Same.refl _⟩
theorem gP{i j:Int}(ha:PEd X sd a (.val<|.int i))(hb:PEd X sd b (.val<|.int j)):PTd X sd (.Compare a [.Eq] [b] pos) (decide<|i=j):=iA ha hb rfl rfl rfl (by rw[qI,oA])
theorem iD{i j:Int}(ha:PEd X sd a (.val<|.int i))(hb:PEd X sd b (.val<|.int j)):PTd X sd (.Compare a [.NotEq] [b] pos) (!decide (i=j)):=jZ ha hb rfl rfl rfl (by rw[qI,oA])
theorem aMb{n:Nat}(ha:PEd X sd a (.val<|.tup ds))(hb:PEd X sd b (.val<|.int (n:Int)))(hd:ds[n]? =some d)(hs:jW b):PEd X sd (.Subscript a b pos) (.val d):=.mk λσ F H S=>
 (aBN aKV dH dH hs).to ((ha σ F H S).imp fun v H1 ⟨F1,S1,s1,q1⟩=>(hb σ F1 H1 S1).imp fun u H2 ⟨F2,S2,s2,q2⟩=>by
  have q1:=Rep.mono s2 q1;simp only[ResOk,Rep] at q1 q2;obtain⟨p,xs,e1,hp,rl⟩:=q1;obtain⟨w,hw,rw'⟩:=rl.get hd
  exact⟨p,xs,(n:Int),w,e1,q2,.of (S2.sub _ _ hp),yJ hw,F2,S2,s1.trans s2,rw'⟩)
theorem eU{n:Nat}(ha:PEd X sd a (.bor ds))(hb:PEd X sd b (.val<|.int (n:Int)))(hd:ds[n]? =some d)(hs:jW b):PEd X sd (.Subscript a b pos) (.val d):=.mk λσ F H S=>
 (aBN yO dH dH hs).to ((ha σ F H S).imp fun v H1 ⟨F1,S1,s1,q1⟩=>(hb σ F1 H1 S1).imp fun u H2 ⟨F2,S2,s2,q2⟩=>by
  obtain⟨p,xs,e1,hp,rl,_⟩:=ResOk.keep (r:=.bor ds) trivial q1 S2 s2;simp only[ResOk,Rep] at q2;obtain⟨w,hw,rw'⟩:=rl.get hd
  exact⟨p,xs,(n:Int),w,e1,q2,.of hp,yJ hw,F2,S2,s1.trans s2,rw'⟩)
theorem aGQ{ns:List Int}{n:Nat}{z:Int}(ha:PEd X sd a (.val<|.scr ns))(hb:PEd X sd b (.val<|.int (n:Int)))(hd:ns[n]? =some z)(hs:jW b):PEd X sd (.Subscript a b pos) (.val<|.int z):=.mk λσ F H S=>
 (aBN yO dH dH hs).to ((ha σ F H S).imp fun v H1 ⟨F1,S1,s1,q1⟩=>(hb σ F1 H1 S1).imp fun u H2 ⟨F2,S2,s2,q2⟩=>by
  have q1:=Rep.mono (s2.trans S2.sub) q1;simp only[ResOk,Rep] at q1 q2;obtain⟨p,e1,hp⟩:=q1
  exact⟨p,_,(n:Int),.int z,e1,q2,hp,yJ (by rw[bQ,hd];rfl),F2,S2,s1.trans s2,by simp only[ResOk,Rep]⟩)
theorem jN{x:Str}{p:Pos}{id:String}{rr:List V->Hp->VK->Prop}{rs:List R}(hc:jK X (.builtin id) rr)(hg:Gl X x)(hm:X.mg x=none)(hv:AT x=some (.builtin id))(ha:PAd X sd (e::es) rs)
  (h:∀ (σ:St) (F H:Hp) (vs:List V) (Q:VK),StF X.K X.B₀ F H σ sd->RsOk X.K F H sd rs vs->(∀w F' H',StF X.K X.B₀ F' H' σ sd->Same F F'->ResOk X.K F' H' sd r w->Q w H')->rr vs H Q)
  (hn:x≠"__name__":=by decide) (hdb:(x==("__debug__":Str))=false:=by decide) (he:AB (e::es) X.env=(false,eval e X.env)::AB es X.env:=by rfl) (hpl:(AX pos<|AB es X.env).any (·.1)=false:=by rfl):
  PEd X sd (.Call (.Name x p) (e::es) [] pos) r:=.mk λσ F H S=>
 (qJ hc hg hm hv xN hn hdb he hpl).to ((ha σ F H S).imp λvs H1 ⟨F1,S1,s1,q1⟩=>h σ F1 H1 vs _ S1 q1 λw F' H' S' s' q'=>⟨F',S',s1.trans s',q'⟩)
theorem nJ{x:Str}{p:Pos}{T:String}{rr:List V->Hp->VK->Prop}{rs:List R}(hc:jK X (.type T) rr)(hg:Gl X x)(hm:X.mg x=none)(hv:AT x=some (.type T))(ha:PAd X sd (e::es) rs)
  (h:∀ (σ:St) (F H:Hp) (vs:List V) (Q:VK),StF X.K X.B₀ F H σ sd->RsOk X.K F H sd rs vs->(∀w F' H',StF X.K X.B₀ F' H' σ sd->Same F F'->ResOk X.K F' H' sd r w->Q w H')->rr vs H Q)
  (hn:x≠"__name__":=by decide) (hdb:(x==("__debug__":Str))=false:=by decide) (he:AB (e::es) X.env=(false,eval e X.env)::AB es X.env:=by rfl) (hpl:(AX pos<|AB es X.env).any (·.1)=false:=by rfl):
  PEd X sd (.Call (.Name x p) (e::es) [] pos) r:=.mk λσ F H S=>
 (aEt hc hg hm hv xN hn hdb he hpl).to ((ha σ F H S).imp λvs H1 ⟨F1,S1,s1,q1⟩=>h σ F1 H1 vs _ S1 q1 λw F' H' S' s' q'=>⟨F',S',s1.trans s',q'⟩)
theorem qW{p:Pos}(hg:Gl X "len")(hm:X.mg "len"=none)(ha:PEd X sd e (.val<|.tup ds))(hst:AB [e] X.env=(false,eval e X.env)::AB [] X.env:=by rfl):PEd X sd (.Call (.Name "len" p) [e] [] pos) (.val<|.int ds.length):=
 jN (he:=hst) lV hg hm PySem.boot_len (aB ha aN trivial hst) λσ F H vs Q S q k=>by
  cases q with
  |cons q1 q2=>cases q2;simp only[ResOk,Rep] at q1;obtain⟨p,xs,rfl,hp,rl⟩:=q1;refine⟨p,xs,rfl,.inr (.of<|S.sub _ _ hp),k _ F H S (Same.refl _) ?_⟩;simp only[ResOk,Rep,rl.len]
theorem dR{p:Pos}(hg:Gl X "len")(hm:X.mg "len"=none)(ha:PEd X sd e (.bor ds))(hst:AB [e] X.env=(false,eval e X.env)::AB [] X.env:=by rfl):PEd X sd (.Call (.Name "len" p) [e] [] pos) (.val<|.int ds.length):=
 jN (he:=hst) lV hg hm PySem.boot_len (aB ha aN trivial hst) λσ F H vs Q S q k=>by
  cases q with
  |cons q1 q2=>cases q2;obtain⟨p,xs,rfl,hp,rl,_⟩:=q1;refine⟨p,xs,rfl,.inl<|.of hp,k _ F H S (Same.refl _) ?_⟩;simp only[ResOk,Rep,rl.len]
theorem zF{p:Pos}{ns:List Int}(hg:Gl X "len")(hm:X.mg "len"=none)(ha:PEd X sd e (.val<|.scr ns))(hst:AB [e] X.env=(false,eval e X.env)::AB [] X.env:=by rfl):PEd X sd (.Call (.Name "len" p) [e] [] pos) (.val<|.int ns.length):=
 jN (he:=hst) lV hg hm PySem.boot_len (aB ha aN trivial hst) λσ F H vs Q S q k=>by
  cases q with
  |cons q1 q2=>cases q2;have q1:=Rep.mono S.sub q1;simp only[Rep] at q1;obtain⟨p,rfl,hp⟩:=q1;refine⟨p,_,rfl,.inl hp,k _ F H S (Same.refl _) ?_⟩;simp only[ResOk,Rep,aD]
noncomputable def tyD:D->BA
 |.non=>.type "NoneType"
 |.bl _=>.type "bool"
 |.int _=>.type "int"
 |.str _=>.type "str"
 |.tup _=>.type "tuple"
 |.lst _=>.type "list"
 |.dic=>.type "dict"
 |.dki _ _=>.type "dict"
 |.any _=>.type "dict"
 |.scr _=>.type "list"
theorem aNO(h:∀ns,d≠ .scr ns)(hA:∀G,d≠ .any G)(q:Rep K H d v):qH K H v (tyD d):=by
 cases d with
 |non=>simp only[Rep] at q;subst q;exact .non
 |bl b=>simp only[Rep] at q;subst q;exact .bl b
 |int b=>simp only[Rep] at q;subst q;exact .int b
 |str b=>simp only[Rep] at q;subst q;exact .str b
 |tup ds=>simp only[Rep] at q;obtain⟨a,xs,rfl,h,_⟩:=q;exact .tup h
 |lst ds=>simp only[Rep] at q;obtain⟨a,xs,rfl,h,_⟩:=q;exact .lst h
 |dic=>simp only[Rep] at q;obtain⟨a,rfl,h⟩:=q;exact .dK<|.of h
 |dki ks ds=>simp only[Rep] at q;obtain⟨a,xs,rfl,h,_⟩:=q;exact .dK<|.inr h
 |scr ns=>exact absurd rfl<|h ns
 |any G=>exact absurd rfl<|hA G
theorem aDJ:jK X (.builtin "isinstance") (λxs H Q=>∃x t n k,xs=[x,.ty n]/\qH X.K H x t/\aV X.K t (.type n)=some k/\Q (.bl k) H):=by intro pins s σ H xs us Q I r h;obtain⟨x,t,n,k,rfl,ty,e,q⟩:=h;obtain⟨u,u',rfl,ru,ru'⟩:=aBK r;cases(show u'=Value.type n from ru');exact aDM I ru ty e λtk=>⟨.bl k,H,I.tok tk,rfl,q⟩
theorem aDq{x:Str}{n:String}(hg:Gl X x)(hm:X.mg x=none)(hv:AT x=some (.type n))(hn:x≠"__name__":=by decide)(hd:(x==("__debug__":Str))=false:=by decide):PE X (.Name x pos) (tC<|.ty n):=aIb hg hm hv rfl hn hd
theorem iE{x:Str}{n:String}{p p2:Pos}{k:Bool}(hg:Gl X "isinstance")(hm:X.mg "isinstance"=none)(hgx:Gl X x)(hmx:X.mg x=none)(hv:AT x=some (.type n))(ha:PEd X sd e (.val d))(hd:∀ns,d≠ .scr ns)
  (hk:aV X.K (tyD d) (.type n)=some k) (hA:∀G,d≠ .any G:=by(intro _ h;cases h)) (hn:x≠"__name__":=by decide) (hdb:(x==("__debug__":Str))=false:=by decide)
  (he:AB (e::[.Name x p2]) X.env=(false,eval e X.env)::AB [.Name x p2] X.env:=by rfl) (hpl:(AX pos<|AB [.Name x p2] X.env).any (·.1)=false:=by rfl) (hs2:AB [.Name x p2] X.env=(false,eval (.Name x p2) X.env)::AB [] X.env:=by rfl):
  PEd X sd (.Call (.Name "isinstance" p) [e, .Name x p2] [] pos) (.val<|.bl k):=.mk λσ F H S=>
 (qJ aDJ hg hm boot_isinstance (eF dH (eF (aDq hgx hmx hv hn hdb) pa_nil hs2) he) (by decide) (by decide) he hpl).to ((ha σ F H S).imp λv H1 ⟨F1,S1,s1,q1⟩=>by exact⟨v,tyD d,n,k,rfl,aNO hd hA<|Rep.mono S1.sub q1,hk,F1,S1,s1,by simp only[ResOk,Rep]⟩)
theorem cN(h:E.nx sd):PSd X sd [] E:=.mk λσ F H S=>pss_nil.to ⟨sd,F,S,Same.refl _,h⟩
theorem aE(h:PSd1 X sd st {E with nx:=λsd'=>PSd X sd' rest E}):PSd X sd (st::rest) E:=.mk λσ F H S=>
 (aFz aOx sC).to (wS.imp (h σ F H S) (fun σ' H' ⟨sd',F',S',s',q⟩=>(q σ' F' H' S').imp (fun σ2 H2 ⟨sd2,F2,S2,s2,q2⟩=>⟨sd2,F2,S2,s'.trans s2,q2⟩) (fun v H2 q2=>q2)
  (λσ2 H2 ⟨sd2,F2,S2,s2,q2⟩=>⟨sd2,F2,S2,s'.trans s2,q2⟩) λσ2 H2 ⟨sd2,F2,S2,s2,q2⟩=>⟨sd2,F2,S2,s'.trans s2,q2⟩) (λv H q=>q) (λσ H q=>q) λσ H q=>q)
theorem aS(h:PSd1 X sd st E):PSd X sd [st] E:=.mk λσ F H S=>(aIY aOx).to<|h σ F H S
theorem bY(h:PEd X sd e r)(hr:match r with | .bor _=>False|_=>True)(hE:E.rt r):PSd1 X sd (.Return (some e) pos) E:=.mk λσ F H S=>
 (xY dH).to ((h σ F H S).imp fun v H' ⟨F',S',s',q⟩=>⟨r,⟨F',S'.base,S'.sub,S'.smp,by
  cases r with
  |val d=>exact q
  |own ds=>obtain⟨l,xs,a,b,c,d,_⟩:=q;exact⟨l,xs,a,b,c,d,by simp[cH]⟩
  |pr d ls=>obtain⟨t,l,xs,y,a,b,c,d,e,f,_⟩:=q;exact⟨t,l,xs,y,a,b,c,d,e,f,by simp[cH]⟩
  |ox G=>obtain⟨ls,nd,h,g⟩:=q;exact⟨ls,nd,λl hl=>⟨(h l hl).1,(h l hl).2.1,by simp[cH]⟩,g⟩
  |bor ds=>exact hr.elim⟩,hE⟩)
theorem aAT(i:Nat){x:Str}{p:Pos}{l:BC}(hs:sd[i]? =some (.own l ds))(h:PE X (.Name x p) (mU i))(hE:E.rt (.own ds)):PSd1 X sd (.Return (some<|.Name x p) pos) E:=.mk λσ F H S=>
 (xY h).to (by
  obtain⟨o,h1,h2,n,xs,q,rl⟩:=S.slots.get hs
  exact⟨.ref l,by rw[h1,h2],.own ds,⟨F,S.base,S.sub,S.smp,l,xs,rfl,n,q,rl,by simp[cH]⟩,hE⟩)
theorem cX{k:Bool}{a o:List BG}(h:PTd X sd c k)(h1:k=true->PSd X sd a E)(h2:k=false->PSd X sd o E):PSd1 X sd (.If c a o pos) E:=.mk λσ F H S=>
 (aNK aJz sC sC).to ((h σ F H S).imp fun k' H' ⟨e,F',S',s'⟩=>by
  have up:∀ {sts:List BG},PSd X sd sts E->wSs X sts (lft X F E) σ H':=λh=>(h σ F' H' S').imp (λσ2 H2 ⟨sd2,F2,S2,s2,q2⟩=>⟨sd2,F2,S2,s'.trans s2,q2⟩) (λv H2 q2=>q2)
   (λσ2 H2 ⟨sd2,F2,S2,s2,q2⟩=>⟨sd2,F2,S2,s'.trans s2,q2⟩) λσ2 H2 ⟨sd2,F2,S2,s2,q2⟩=>⟨sd2,F2,S2,s'.trans s2,q2⟩
  subst e;cases k' with
  |true=>exact aJy (up<|h1 rfl)
  |false=>exact aJE (up (h2 rfl)))
theorem jE:∀ {sd:List Slot}{z:Slot} (i:Nat),(cH sd).Nodup->(∀l,l∈gH z->l∉cH sd\/(∃z',sd[i]? =some z'/\l∈gH z'))->(hz:(gH z).Nodup:=by simp[gH])->(cH<|sd.set i z).Nodup/\∀l,l∈cH (sd.set i z)->l∈cH sd\/l∈gH z
 |[],z,i,h,_,_=>⟨h,λl hl=>.inl hl⟩
 |z'::zs,z,0,h,hz,nz=>by
  show(gH z++cH zs).Nodup/\∀l,l∈gH z++cH zs->_;obtain⟨n1,n2,n3⟩:=dA.mp (show(gH z'++cH zs).Nodup from h);refine⟨dA.mpr ⟨nz,n2,λa ha b hb e=> ?_⟩,λl hl=> ?_⟩
  ·subst e
   rcases hz a ha with y|⟨z2,e2,y⟩
   ·exact y<|aJ _ hb
   ·have:z'=z2:=by simpa using e2
    subst this;exact n3 a y a hb rfl
  ·rcases aW.mp hl with y|y
   ·exact .inr y
   ·exact .inl<|aJ _ y
 |z'::zs,z,i+1,h,hz,nz=>by
  show(gH z'++cH (zs.set i z)).Nodup/\∀l,l∈gH z'++cH (zs.set i z)->_;obtain⟨n1,n2,n3⟩:=dA.mp (show(gH z'++cH zs).Nodup from h)
  obtain ⟨i1,i2⟩:=jE (sd:=zs) (z:=z) i n2 (fun l hl=>by
   rcases hz l hl with y|⟨z2,e2,y⟩
   ·exact .inl λq=>y<|aJ _ q
   ·exact .inr ⟨z2,by simpa using e2,y⟩) nz
  refine⟨dA.mpr ⟨n1,i1,λa ha b hb e=> ?_⟩,λl hl=> ?_⟩
  ·subst e
   rcases i2 a hb with y|y
   ·exact n3 a ha a y rfl
   ·rcases hz a y with y|⟨z2,e2,y⟩
    ·exact y<|bH _ ha
    ·have m:a∈cH zs:=tG.mpr ⟨z2,cK (by simpa using e2),y⟩;exact n3 a ha a m rfl
  ·rcases aW.mp hl with y|y
   ·exact .inl<|bH _ y
   ·rcases i2 l y with y|y
    ·exact .inl<|aJ _ y
    ·exact .inr y
theorem StF.set(S:StF K H₀ F H σ sd)(i:Nat)(q:Rep K F d v):StF K H₀ F H (σ.set i (some v)) (sd.set i<|.val d):=
 ⟨S.base,S.sub,S.smp,S.slots.set (z:=.val d) ⟨v,rfl,q⟩ i,(jE i S.nd λl e=>by simp[gH] at e).1⟩
theorem StF.setO{l:BC}{xs:List V}(S:StF K H₀ F H σ sd)(i:Nat)(n:F l=none)(h:H l=some (.lst xs))(q:RepL K F ds xs)(no:l∉cH sd):StF K H₀ F H (σ.set i (some<|.ref l)) (sd.set i<|.own l ds):=
 ⟨S.base,S.sub,S.smp,S.slots.set (z:=.own l ds) ⟨rfl,n,xs,h,q⟩ i,(jE i S.nd λl' e=>by rw[bX.mp e];exact .inl no).1⟩
theorem kC(i:Nat){x:Str}{p:Pos}(hN:X.N.Nodup)(hi:X.N[i]? =some x)(hx:Loc X.env.scope x)(h:PEd X sd e (.val d))(hE:E.nx (sd.set i<|.val d))(hs:Ad e (some<|.Name x p) pos.line X.env=pure false:=by rfl)
  (hf:X.fn x=true\/X.env.scope.names.lookup x=some .local:=by first|exact .inl rfl|exact .inr rfl|assumption):PSd1 X sd (.Assign [.Name x p] e pos) E:=.mk λσ F H S=>
 (aHl hN hi hx dH hs hf).to ((h σ F H S).imp λv H' ⟨F',S',s',q⟩=>⟨_,F',S'.set i q,s',hE⟩)
theorem aBb(i:Nat){x:Str}{p:Pos}(hN:X.N.Nodup)(hi:X.N[i]? =some x)(hx:Loc X.env.scope x)(h:PEd X sd e (.own ds))(hE:∀l,E.nx (sd.set i<|.own l ds))(hs:Ad e (some<|.Name x p) pos.line X.env=pure false:=by rfl)
  (hf:X.fn x=true\/X.env.scope.names.lookup x=some .local:=by first|exact .inl rfl|exact .inr rfl|assumption):PSd1 X sd (.Assign [.Name x p] e pos) E:=.mk λσ F H S=>
 (aHl hN hi hx dH hs hf).to ((h σ F H S).imp λv H' ⟨F',S',s',l,xs,e,n,q,rl,no⟩=>⟨_,F',by subst e;exact S'.setO i n q rl no,s',hE l⟩)
noncomputable def Le:List Slot->List Slot->Prop
 |[],[]=>True
 |x::xs,y::ys=>(y=.un\/x=y)/\Le xs ys
 |_,_=>False
theorem Le.refl:∀ (sd:List Slot),Le sd sd
 |[]=>trivial
 |_::xs=>⟨.inr rfl,Le.refl xs⟩
theorem Le.own:∀ {sd sd':List Slot},Le sd sd'->(cH sd').Sublist (cH sd)
 |[],[],_=>List.Sublist.refl _
 |[],_::_,h=>h.elim
 |_::_,[],h=>h.elim
 |x::xs,y::ys,h=>by
  obtain⟨h1,h2⟩:=h;have ih:=Le.own h2
  rcases h1 with rfl|rfl
  ·exact ih.trans<|List.sublist_append_right _ _
  ·exact List.Sublist.append (List.Sublist.refl _) ih
theorem Le.slots{K:aA}{F H:Hp}:∀ {sd sd':List Slot}{σ:St},Le sd sd'->SlotsOk K F H sd σ->SlotsOk K F H sd' σ
 |[],[],_,_,h=>h
 |[],_::_,_,h,_=>h.elim
 |_::_,[],_,h,_=>h.elim
 |x::xs,y::ys,σ,h,q=>by
  obtain⟨h1,h2⟩:=h;obtain⟨o,r,rfl,a,b⟩:=q;refine⟨o,r,rfl, ?_,Le.slots h2 b⟩
  rcases h1 with rfl|rfl
  ·trivial
  ·exact a
theorem StF.le{sd':List Slot}(S:StF K H₀ F H σ sd)(h:Le sd sd'):StF K H₀ F H σ sd':=⟨S.base,S.sub,S.smp,h.slots S.slots,S.nd.sublist h.own⟩
theorem rM{sd':List Slot}{sts:List BG}(h:Le sd sd')(q:PSd X sd' sts E):PSd X sd sts E:=.mk λσ F H S=>q σ F H<|S.le h
theorem aLz{F₀:Hp}{sts:List BG}(s:Same F₀ F)(h:wSs X sts (lft X F E) σ H):wSs X sts (lft X F₀ E) σ H:=
 h.imp (λσ2 H2 ⟨sd2,F2,S2,s2,q2⟩=>⟨sd2,F2,S2,s.trans s2,q2⟩) (λv H2 q2=>q2) (λσ2 H2 ⟨sd2,F2,S2,s2,q2⟩=>⟨sd2,F2,S2,s.trans s2,q2⟩) λσ2 H2 ⟨sd2,F2,S2,s2,q2⟩=>⟨sd2,F2,S2,s.trans s2,q2⟩
theorem jF:∀ (sd:List Slot) (i:Nat),Le sd (sd.set i .un)
 |[],_=>trivial
 |_::xs,0=>⟨.inl rfl,Le.refl xs⟩
 |_::xs,i+1=>⟨.inr rfl,jF xs i⟩
theorem lZ:∀ {sd:List Slot}{i:Nat}{l:BC}{z:Slot},(cH sd).Nodup->sd[i]? =some z->l∈gH z->l∉cH (sd.set i .un)
 |[],_,_,_,_,e,_=>by simp at e
 |y::zs,0,l,z,h,e,hl=>by
  have:y=z:=by simpa using e
  subst this;obtain⟨n1,n2,n3⟩:=dA.mp (show(gH y++cH zs).Nodup from h);exact λhm=>n3 l hl l hm rfl
 |y::zs,i+1,l,z,h,e,hl=>by
  have e':zs[i]? =some z:=by simpa using e
  obtain⟨n1,n2,n3⟩:=dA.mp (show(gH y++cH zs).Nodup from h);have ml:l∈cH zs:=tG.mpr ⟨_,cK e',hl⟩;intro hm
  rcases aW.mp (show l∈gH y++cH (zs.set i .un) from hm) with q|q
  ·exact n3 l q l ml rfl
  ·exact lZ n2 e' hl q
theorem rN{i:Nat}{l:BC}(h:(cH sd).Nodup)(e:sd[i]? =some (.own l ds)):l∉cH (sd.set i .un):=lZ h e<|aBc l
theorem qR{i:Nat}{o:Option V}(h:σ[i]? =some o):σ.set i o=σ:=by obtain⟨hi,e⟩:=bF.mp h;rw[<-e];exact List.set_getElem_self hi
theorem nW(sd:List Slot)(i:Nat)(x y:Slot):(sd.set i x).set i y=sd.set i y:=by simp
theorem StF.wr{i:Nat}{l:BC}{ds':List D}{xs':List V}(S:StF K H₀ F H σ sd)(hs:sd[i]? =some (.own l ds))(rl:RepL K F ds' xs'):StF K H₀ F (upd H l<|.lst xs') σ (sd.set i<|.own l ds'):=by
 obtain⟨o,h1,h2,n,xs,q,_⟩:=S.slots.get hs;have no:=rN S.nd hs;have S0:=S.le<|jF sd i;refine⟨S.base,λb u e=> ?_,λb u e=> ?_, ?_, ?_⟩
 ·rw[bK<|cF e n];exact S.sub _ _ e
 ·by_cases h:b=l
  ·subst h;rw[bR] at e;cases e;trivial
  ·rw[bK h] at e;exact S.smp _ _ e
 ·have q1:SlotsOk K F (upd H l<|.lst xs') (sd.set i .un) σ:=S0.slots.mono (Same.refl _) λl' hl=>by
   obtain⟨n',ys,q',_⟩:=S0.slots.owns hl;have hne:l'≠l:=λz=>no<|z▸hl
   exact⟨n',λys e=>by rw[bK hne];exact e⟩
  have q2:=q1.set (z:=.own l ds') (o:=some<|.ref l) ⟨rfl,n,xs',bR,rl⟩ i;rw[nW,qR<|by rw[h1,h2]] at q2;exact q2
 ·have:=jE (z:=Slot.own l ds') i S0.nd λl' e=>by rw[bX.mp e];exact .inl no
  rw[nW] at this;exact this.1
theorem jY(i:Nat){l:BC}{sts:List BG}(hs:sd[i]? =some (.own l ds))(h:PSd X (sd.set i (.val<|.lst ds)) sts E):PSd X sd sts E:=.mk λσ F H S=>by obtain⟨o,h1,h2,n,xs,q,rl⟩:=S.slots.get hs;have S0:=S.le<|jF sd i;obtain⟨S1,s1⟩:=S0.freeze q n<|rN S.nd hs;have S2:=S1.set (d:=.lst ds) (v:=.ref l) i (by simp only[Rep];exact⟨l,xs,rfl,bR,rl.mono s1⟩);rw[nW,qR<|by rw[h1,h2]] at S2;exact aLz s1<|h σ _ H S2
theorem iN(i:Nat){x:Str}{p ap cp:Pos}{l:BC}(hs:sd[i]? =some (.own l ds))(hx:PE X (.Name x p) (mU i))(h:PEd X sd e (.val d))(hl:ds.length<=10000)(hE:E.nx (sd.set i (.own l<|ds++[d])))
  (hst:AB (e::[]) X.env=(false,eval e X.env)::AB [] X.env:=by rfl)
  (hm:PE X (.Call (.Attribute (.Name x p) "append" ap) [e] [] cp) (tBM X.K "list" aDD (mU i)<|sB (wE X e) aHw):=by exact uR lM PySem.F.slot_list_append PySem.F.type_list_append aEA (pv _) (eF dH pa_nil))
  (hsw:Ad (.Call (.Attribute (.Name x p) "append" ap) [e] [] cp) none pos.line X.env=pure false:=by rfl):
  PSd1 X sd (.Expr (.Call (.Attribute (.Name x p) "append" ap) [e] [] cp) pos) E:=.mk λσ F H S=>
 (qY hm hsw).to (by
  obtain⟨o,h1,h2,n,xs,q,rl⟩:=S.slots.get hs;refine⟨.ref l,by rw[h1,h2],.inl ⟨rfl,xs,.of q⟩,(h σ F H S).imp λv H1 ⟨F1,S1,s1,q1⟩=> ?_⟩;obtain⟨o',h1',h2',n',xs',q',rl'⟩:=S1.slots.get hs
  exact⟨l,xs',v,rfl,rfl,q',by rw[rl'.len];exact fQ hl,_,F1,S1.wr hs (rl'.app (.one q1)),s1,hE⟩)
noncomputable def spC(K:aA)(n:Nat)(C:List D->R->Prop):Sp:=λvs H Q _=>vs.length=n/\Smp H/\∃ds r,RepL K H ds vs/\C ds r/\∀v H',aBI K H H' r v->Q v H'
noncomputable def spF(K:aA)(n:Nat)(C:List D->R->Prop):Sp:=λvs H Q _=>vs.length=n/\Smp H/\∃F ds r,Same F H/\RepL K F ds vs/\C ds r/\∀v F2 F3 H',Same F F2->Same F2 F3->Same F3 H'->Same H H'->Smp H'->(∀b o,H b=some o->F b=none->F3 b=none)->ResOk K F2 F3 [] r v->Q v H'
noncomputable def merge(F H:Hp):Hp:=λb=>match F b with
 |some o=>some o
 |none=>H b
theorem pK:Same F (merge F H):=λb o e=>by unfold merge;rw[e]
theorem pF{b:BC}(h:F b=none):merge F H b=H b:=by unfold merge;rw[h]
theorem FnOk.framed{P:AD}{w:AG}{mg:Str->Option BA}{base:BE}{k n:Nat}{f:BC}{fd:AJ}{ps:List Str}{C:List D->R->Prop}(G:FnOk P w K mg base CX0 k f fd ps (spC K n C)):FnOk P w K mg base CX0 k f fd ps (spF K n C):=by
 refine⟨λvs H Q E h=> ?_,λA outer s H args us vs Q E hr e0 hb rv h=> ?_⟩
 ·obtain⟨hl,sm,F,ds,r,sF,rl,c,_⟩:=h;exact G.len vs F (λ_ _=>True) E ⟨hl,sm.sub sF,ds,r,rl,c,λ_ _ _=>trivial⟩
 ·obtain⟨hl,sm,F,ds,r,sF,rl,c,q⟩:=h;have e1:Env0 P w K mg base A outer s F:=⟨e0.frames,e0.mod,λb o e=>⟨(e0.bs b o e).1,sF.free (e0.bs b o e).2⟩,e0.bsz,e0.funs,λb hb=>sF.free<|e0.frf b hb,λb o e=>(e0.hok b o<|sF b o e).smp (sm b o<|sF b o e),e0.bare⟩;refine Ag (G.run A outer s F args us vs (λv F3=>aBI K F F3 r v) E hr e1 hb rv ⟨hl,sm.sub sF,ds,r,rl,c,λv H' z=>z⟩) λrr s' hrr=> ?_
  cases rr with
  |error e=>exact hrr
  |ok fl=>
   cases fl with
   |ret u=>
    obtain⟨v,F3,ho,ha,un,hk,ru,F2,s1,s2,sm3,res⟩:=hrr
    have keepF:∀b o,H b=some o->F b=none->F3 b=none:=λb o e n=>by
     have lt:=e0.hok.lt e;cases g:s.heap.get? b with
     |none=>
      exfalso;have ob:=e0.hok b o e;have z:=sm b o e;cases o with
      |lst xs=>obtain⟨_,_,_,_,g'⟩:=ob;rw[g] at g';cases g'
      |tup xs=>obtain⟨_,_,_,oo,g',_⟩:=ob;rw[g] at g';cases g'
      |dK kvs=>obtain⟨_,_,_,_,oo,_,_,g',_⟩:=ob;rw[g] at g';cases g'
      |frz o2 u2=>obtain⟨g',_⟩:=ob;rw[g] at g';cases g'
      |ext φ=>obtain⟨_,⟨oo,g'⟩,_⟩:=ob;rw[g] at g';cases g'
      |_=>exact z
     |some ob=>exact un.free b ob g n<|by simp
    have keepO:∀b o,H b=some o->F b=none->∀ob,s.heap.get? b=some ob->s'.heap.get? b=some ob:=λb o e n ob g=>un.keep b ob g n (λhb=>by have:=e0.frf b hb;rw[e] at this;cases this)<|by simp
    have sH:Same H (merge F3 H):=λb o e=>by
     cases g:F b with
     |none=>rw[pF<|keepF b o e g];exact e
     |some o'=>have:=sF b o' g;rw[e] at this;cases this;exact pK _ _ (s2 _ _<|s1 _ _ g)
    have smM:Smp (merge F3 H):=λb o e=>by
     cases g:F3 b with
     |some o'=>have:=pK (H:=H) b o' g;rw[e] at this;cases this;exact sm3 b o g
     |none=>rw[pF g] at e;exact sm b o e
    refine⟨v,merge F3 H,ho,ha,⟨λb o g n hb hx=>un.keep b o g (sF.free n) hb hx,λb o g n hb hx=>un.slot b o g (sF.free n) hb hx,λb o g n hx=> ?_,un.there,λb xs e=>sH _ _ e,λb o u e=>sH _ _ e,λb ps e=>⟨#[],by rw[sH _ _ e];simp⟩⟩,λb o e=> ?_,ru, ?_⟩
    ·rw[pF<|un.free b o g (sF.free n) hx];exact n
    ·have z:=smM b o e;cases g:F3 b with
     |some o'=>have:=pK (H:=H) b o' g;rw[e] at this;cases this;exact(hk b o g).smp z
     |none=>
      rw[pF g] at e
      have n:F b=none:=by
       cases g2:F b with
       |none=>rfl
       |some o2=>rw[s2 _ _<|s1 _ _ g2] at g;cases g
      have st:=(e0.hok b o e).smp (F:=λ_=>none) z
      have:ObjOk P w (fun _=>none) s'.heap b o:=st.stay (fun b2 u hb2 gg=>by
       rcases hb2 with rfl|hb2
       ·exact keepO _ o e n u gg
       ·cases hb2) (λb2 hb2=>nomatch hb2) λb2 xs hb2=>nomatch hb2
      exact this.smp z
    ·exact q v F2 F3 (merge F3 H) s1 s2 pK sH smM keepF res
   |_=>exact hrr
structure bP(P:AD)(w:AG)(K:aA)(mg:Str->Option BA)(base:BE)(x:Str)(k n:Nat)(C:List D->R->Prop):Prop where
 ex:∃ (f:BC) (fd:AJ) (ps:List Str),mg x=some (.ref f)/\bS K (.ref f)=true/\Binds K fd ps []/\FnOk P w K mg base CX0 k f fd ps (spC K n C)
theorem aDC{x:Str}{p:Pos}{k n:Nat}{C:List D->R->Prop}(G:bP X.prog X.w X.K X.mg X.base x k n C)(hr:Room k X.A)(hg:Gl X x)(ha:PAd X sd (e::es) (ds.map R.val))(hc:C ds r)(hb:match r with | .bor _=>False|_=>True)(hn:ds.length=n)
  (hdb:(x==("__debug__":Str))=false:=by decide) (he:AB (e::es) X.env=(false,eval e X.env)::AB es X.env:=by rfl) (hpl:(AX pos<|AB es X.env).any (·.1)=false:=by rfl):
  PEd X sd (.Call (.Name x p) (e::es) [] pos) r:=.mk λσ F H S=>by
 obtain⟨f,fd,ps,hm,hk,bd,G⟩:=G.ex;refine(aIU (FnOk.framed G) hr hg hm hk bd .nil aND xN hdb he hpl).to<|(ha σ F H S).imp λvs H1 ⟨F1,S1,s1,q1⟩=> ?_;have rl:=q1.vals;refine⟨by rw[dC,rl.len];exact hn,S1.smp,F1,ds,r,S1.sub,by rw[dC];exact rl,hc,λv F2 F3 H' s2 s3 s4 sH sm kp res=> ?_⟩
 have no:∀l,l∈cH sd->F2 l=none/\F3 l=none:=λl hl=>by obtain⟨n1,xs,q,_⟩:=S1.slots.owns hl;have n3:=kp l _ q n1;exact⟨s3.free n3,n3⟩
 refine⟨F2,⟨λb o e=>s2 _ _<|S1.base _ _ e,s3.trans s4,sm,S1.slots.mono s2 λl hl=>⟨(no l hl).1,λys e=>sH _ _ e⟩,S1.nd⟩,s1.trans s2, ?_⟩;cases r with
 |val d=>exact res
 |own ds'=>obtain⟨l,xs,e,n,q,rl',_⟩:=res;exact⟨l,xs,e,n,s4 _ _ q,rl',λhl=>by rw[(no l hl).2] at q;cases q⟩
 |pr d ls=>obtain⟨t,l,xs,y,e,f,g,n,q,rl',_⟩:=res;exact⟨t,l,xs,y,e,f,g,n,s4 _ _ q,rl',λhl=>by rw[(no l hl).2] at q;cases q⟩
 |ox G=>obtain⟨ls,nd,h,g⟩:=res;refine⟨ls,nd,λl hl=> ?_,λF' H'' sF k=>g F' H'' sF λl hl ob q=>k l hl ob<|s4 _ _ q⟩;obtain⟨n,⟨ob,q,w⟩,_⟩:=h l hl;exact⟨n,⟨ob,s4 _ _ q,w⟩,λhm=>by rw[(no l hm).2] at q;cases q⟩
 |bor ds'=>exact hb.elim
noncomputable def R.toD:R->D
 |.val d=>d
 |.own ds=>.lst ds
 |.bor ds=>.lst ds
 |.pr d ls=>.tup [d,.lst ls]
 |.ox _=>.non
noncomputable def init(n:Nat)(ds:List D):List Slot:=ds.map Slot.val++bL (n-ds.length) .un
theorem aAL{K:aA}{F H:Hp}:∀n:Nat,SlotsOk K F H (bL n .un) (bL n none)
 |0=>rfl
 |n+1=>⟨none,bL n none,rfl,trivial,aAL n⟩
theorem lQ{K:aA}{F H:Hp}{m n:Nat}:∀ {ds:List D}{vs:List V},RepL K F ds vs->SlotsOk K F H (ds.map Slot.val++bL n .un) (vs.map some++bL n none)
 |[],vs,r=>by simp only[RepL] at r;subst r;exact aAL n
 |d::ds,vs,r=>by obtain⟨y,ys,rfl,a,rl⟩:=r.uncons;exact⟨some y,_,rfl,⟨y,rfl,a⟩,lQ (m:=m) rl⟩
theorem lU(n:Nat):∀ds:List D,cH (ds.map Slot.val++bL n .un)=[]
 |[]=>by
  induction n with
  |zero=>rfl
  |succ n ih=>exact ih
 |_::ds=>lU n ds
theorem aGP{P:AD}{w:AG}{mg:Str->Option BA}{base:BE}{x qual:Str}{f:BC}{fd:AJ}{N ps:List Str}{k:Nat}{C:List D->R->Prop}(F:Fun K x qual st f fd)(S:jC N ps (bE st))
  (body:∀ (cdv:BA) (A:BD) (outer:List Env) (s:BB) (H:Hp) (E:XK),Room k (A.deeper (Ak qual (bE st) s.heap.objs.size f cdv))→∀ds r,ds.length=ps.length→C ds r→
   PSd (jQ CX0 P w K mg base N qual (bE st) f cdv A outer s H E).nox (init N.length ds) (dG st) {nx:=λ_=>r=.val .non,rt:=λr'=>r'=r}):FnOk P w K mg base CX0 (k+1) f fd ps (spC K ps.length C):=by
 refine F.ok S (λvs H Q E h=>h.1) λcdv A outer s H vs Q E hr h=> ?_
 obtain⟨hl,sm,ds,r,rl,c,q⟩:=h;have hds:ds.length=ps.length:=by rw[<-rl.len];exact hl
 refine⟨_,sC, ?_⟩;have hlen:N.length-vs.length=N.length-ds.length:=by rw[rl.len]
 have S0:StF K H H H (L2.start N vs) (init N.length ds):=by
  refine⟨Same.refl _,Same.refl _,sm, ?_, ?_⟩
  ·unfold L2.start init;rw[hlen];exact lQ (m:=0) rl
  ·unfold init;rw[lU];exact fA
 refine(body cdv A outer s H E hr ds r hds c (L2.start N vs) H H S0).imp ?_ ?_ (λ_ _ ⟨_,_,_,_,z⟩=>z) λ_ _ ⟨_,_,_,_,z⟩=>z
 ·rintro σ' H' ⟨sd',F',S',s',e⟩;have e:r=.val .non:=e;subst e;exact q .non H' ⟨F',S'.base,S'.sub,S'.smp,by simp only[ResOk,Rep]⟩
 ·rintro v H' ⟨r',ro,e⟩;have e:r'=r:=e;subst e;exact q v H' ro
theorem aGJ{P:AD}{w:AG}{mg:Str->Option BA}{base:BE}{x qual:Str}{f:BC}{fd:AJ}{N ps:List Str}{k:Nat}{C:List D->R->Prop}(F:Fun K x qual st f fd)(S:jC N ps (bE st))
  (hm:mg x=some (.ref f)) (hb:∀ (kV doc pm:BA) (an:Option BC) (cdv ct:BA) (us:List BA),us.length=ps.length->bindArgs (cU x qual (fK st) (dG st) (bE st) .none kV doc pm an cdv ct) ⟨us,[]⟩=pure (ps.zip us))
  (body:∀ (cdv:BA) (A:BD) (outer:List Env) (s:BB) (H:Hp) (E:XK),Room k (A.deeper (Ak qual (bE st) s.heap.objs.size f cdv))→∀ds r,ds.length=ps.length→C ds r→
   PSd (jQ CX0 P w K mg base N qual (bE st) f cdv A outer s H E).nox (init N.length ds) (dG st) {nx:=λ_=>r=.val .non,rt:=λr'=>r'=r}):bP P w K mg base x (k+1) ps.length C:=
 ⟨f,fd,ps,hm,F.kp,F.binds hb,aGP F S body⟩
variable {tg iter:Expr}
def ItD(K:aA)(F₁:Hp)(P:Hp->Hp->Prop)(J:It)(ds:List D):Prop:=∀ (F H:Hp),Same F₁ F->Same F H->Smp H->P F H->∀i,(i<ds.length->J.go i H)/\(ds.length<=i->J.stop i H)/\
 ∀x H' d,ds[i]? =some d->J.yld i H x H'->∃F',Same F F'/\Rep K F' d x/\∀H₀ σ sd,StF K H₀ F H σ sd->StF K H₀ F' H' σ sd
abbrev PT0:Hp->Hp->Prop:=λ_ _=>True
structure PId(X:Cx)(sd:List Slot)(P:Hp->Hp->Prop)(tg iter:Expr)(ds:List D):Prop where
 run:∀ (σ:St) (F H:Hp),StF X.K X.B₀ F H σ sd->
 wI X tg iter σ H λJ H1=>∃F1,StF X.K X.B₀ F1 H1 σ sd/\Same F F1/\ItD X.K F1 P J ds
instance {X:Cx}{sd:List Slot}{P:Hp→Hp→Prop}{tg iter:Expr}{ds:List D}:CoeFun (PId X sd P tg iter ds) (fun _=>∀ (σ:St) (F H:Hp),StF X.K X.B₀ F H σ sd→
 wI X tg iter σ H λJ H1=>∃F1,StF X.K X.B₀ F1 H1 σ sd/\Same F F1/\ItD X.K F1 P J ds):=⟨PId.run⟩
theorem _root_.L2.PI.to{wi:TI}{R:It->Hp->Prop}(h:PI X tg iter wi)(q:wi σ H R):wI X tg iter σ H R:=λpins s I=>h pins s σ H R I q
theorem gO(h:PEd X sd iter (.val<|.lst ds)):PId X sd PT0 tg iter ds:=.mk λσ F H S=>
 (aIj dH).to ((h σ F H S).imp fun v H1 ⟨F1,S1,s1,q1⟩=>by
  simp only[ResOk,Rep] at q1;obtain⟨l,xs,rfl,hl,rl⟩:=q1;refine⟨l,rfl,⟨xs,.of<|S1.sub _ _ hl⟩,F1,S1,s1,λF' H' sF sH sm _ i=> ?_⟩;have hl':=sH _ _<|sF _ _ hl;refine⟨λhi=>⟨xs,xs[i]'(by rw[rl.len];exact hi),.of hl',by simp[rl.len,hi]⟩,λhi=>⟨xs,.of hl',by rw[rl.len];exact hi⟩,λx H2 d hd y=> ?_⟩;obtain⟨rfl,y⟩:=y;obtain⟨v,hv,rv⟩:=rl.get hd;have:=y xs<|.of hl';rw[hv] at this;cases this
  exact⟨F',Same.refl _,rv.mono sF,λ_ _ _ S=>S⟩)
theorem aIC(h:PEd X sd iter (.val<|.tup ds)):PId X sd PT0 tg iter ds:=.mk λσ F H S=>
 (aKZ dH).to ((h σ F H S).imp fun v H1 ⟨F1,S1,s1,q1⟩=>by
  simp only[ResOk,Rep] at q1;obtain⟨l,xs,rfl,hl,rl⟩:=q1;refine⟨l,rfl,⟨xs,.of<|S1.sub _ _ hl⟩,F1,S1,s1,λF' H' sF sH sm _ i=> ?_⟩;have hl':=sH _ _<|sF _ _ hl;refine⟨λhi=>⟨xs,xs[i]'(by rw[rl.len];exact hi),.of hl',by simp[rl.len,hi]⟩,λhi=>⟨xs,.of hl',by rw[rl.len];exact hi⟩,λx H2 d hd y=> ?_⟩;obtain⟨rfl,y⟩:=y;obtain⟨v,hv,rv⟩:=rl.get hd;have:=y xs<|.of hl';rw[hv] at this;cases this
  exact⟨F',Same.refl _,rv.mono sF,λ_ _ _ S=>S⟩)
noncomputable def gU(lo:Int)(n:Nat):List D:=(cI n).map λ(k:Nat)=>D.int<|lo+(k:Int)
theorem iO(lo:Int)(n:Nat):(gU lo n).length=n:=by simp[gU]
theorem fN{lo:Int}{n i:Nat}(h:(gU lo n)[i]? =some d):i<n/\d=.int (lo+(i:Int)):=by
 unfold gU at h;rw[bQ] at h
 by_cases hi:i<n
 ·rw[aEJ hi] at h;exact⟨hi,(cC.inj h).symm⟩
 ·rw[eA<|by simpa using hi] at h;cases h
theorem wR{F₁:Hp}{lo:Int}{n:Nat}:ItD K F₁ PT0 (Itr lo n) (gU lo n):=λF H _ _ _ _ i=>by refine⟨λhi=>by rw[iO] at hi;exact hi,λhi=>by rw[iO] at hi;exact hi,λx H' d hd y=> ?_⟩;obtain⟨rfl,rfl⟩:=y;obtain⟨_,rfl⟩:=fN hd;exact⟨F,Same.refl _,by simp only[Rep],λ_ _ _ S=>S⟩
theorem rY{p:Pos}{n:Nat}(hg:Gl X "range")(hm:X.mg "range"=none)(h:PEd X sd a (.val<|.int (n:Int)))(hn:(n:Int)<2^62)(hs:AB [a] X.env=[(false,eval a X.env)]:=by rfl):PId X sd PT0 tg (.Call (.Name "range" p) [a] [] pos) (gU 0 n):=.mk λσ F H S=>
 (aDN hg hm xN hs).to ((aB h aN trivial hs σ F H S).imp fun vs H1 ⟨F1,S1,s1,q1⟩=>by
  cases q1 with
  |cons q1 q2=>
   cases q2;simp only[ResOk,Rep] at q1;subst q1
   exact⟨(n:Int),rfl,by omega,hn,F1,S1,s1,by rw[cD];exact wR⟩)
theorem tT{p:Pos}{lo:Int}{m:Int}(hg:Gl X "range")(hm:X.mg "range"=none)(ha:PEd X sd a (.val<|.int lo))(hb:PEd X sd b (.val<|.int m))(h1: -(2^62)<=lo/\lo<2^62)(h2: -(2^62)<=m/\m<2^62)(hs:AB [a,b] X.env=[(false,eval a X.env),(false,eval b X.env)]:=by rfl)(hs2:AB [b] X.env=[(false,eval b X.env)]:=by rfl):
  PId X sd PT0 tg (.Call (.Name "range" p) [a,b] [] pos) (gU lo (m-lo).toNat):=.mk λσ F H S=>
 (aEr hg hm xN hs hs2).to ((aB ha (aB hb aN trivial hs2) trivial (by rw [hs,hs2]) σ F H S).imp fun vs H1 ⟨F1,S1,s1,q1⟩=>by
  cases q1 with
  |cons q1 q2=>
   cases q2 with
   |cons q2 q3=>
    cases q3;simp only[ResOk,Rep] at q1 q2;subst q1 q2
    exact⟨lo,m,rfl,⟨h1.1,h1.2,h2.1,h2.2⟩,F1,S1,s1,wR⟩)
structure PGd(X:Cx)(sd:List Slot)(tg:Expr)(d:D)(sd':List Slot):Prop where
 run:∀ (σ:St) (F H:Hp) (v:V),StF X.K X.B₀ F H σ sd->Rep X.K F d v->wG X tg v σ H λσ' H'=>∃F',StF X.K X.B₀ F' H' σ' sd'/\Same F F'
instance {X:Cx}{sd:List Slot}{tg:Expr}{d:D}{sd':List Slot}:CoeFun (PGd X sd tg d sd') (λ_=>∀ (σ:St) (F H:Hp) (v:V),StF X.K X.B₀ F H σ sd->Rep X.K F d v->wG X tg v σ H λσ' H'=>∃F',StF X.K X.B₀ F' H' σ' sd'/\Same F F'):=⟨PGd.run⟩
theorem _root_.L2.PG.to{t:TG}{Q:St->Hp->Prop}(h:PG X tg t)(q:t v σ H Q):wG X tg v σ H Q:=λpins s u I r=>h pins s σ H v u Q I r q
theorem aFc(j:Nat)(h:PG X tg (aBH j)):PGd X sd tg d (sd.set j<|.val d):=.mk λσ F H v S q=>h.to ⟨F,S.set j q,Same.refl _⟩
noncomputable def gNs:List Nat->TGs
 |[]=>aOB
 |j::js=>aJY (aBH j)<|gNs js
noncomputable def yF:List Slot->List Nat->List D->List Slot
 |sd,j::js,d::ds=>yF (sd.set j<|.val d) js ds
 |sd,_,_=>sd
theorem aCb{K:aA}{H₀ F H:Hp}{Q:St->Hp->Prop}:∀ {js:List Nat}{ds:List D}{vs:List V}{σ:St}{sd:List Slot},js.length=ds.length->RepL K F ds vs->StF K H₀ F H σ sd->(∀σ',StF K H₀ F H σ' (yF sd js ds)->Q σ' H)->gNs js vs σ H Q
 |[],[],vs,σ,sd,_,r,S,k=>by simp only[RepL] at r;exact⟨r,k σ S⟩
 |j::js,d::ds,vs,σ,sd,hl,r,S,k=>by obtain⟨y,ys,rfl,q,rl⟩:=r.uncons;exact⟨y,ys,rfl,aCb (by simpa using hl) rl (S.set j q) k⟩
 |[],_::_,_,_,_,hl,_,_,_=>by simp at hl
 |_::_,[],_,_,_,hl,_,_,_=>by simp at hl
theorem nV{k:Nat}{js:List Nat}(hc:X.calm=true)(h:PGs X es (gNs js))(hl:js.length=ds.length)(hn:(AV es X.env).length=ds.length)(hst:(AV es X.env).findIdx? (·.1)=none:=by rfl):PGd X sd (.Tuple es k pos) (.tup ds) (yF sd js ds):=.mk λσ F H v S q=>
 (aKs hc h hn hst).to (by
  simp only[Rep] at q;obtain⟨a,xs,rfl,ha,rl⟩:=q
  exact⟨a,xs,rfl,.of (S.sub _ _ ha),rl.len,aCb hl rl S λσ' S'=>⟨F,S',Same.refl _⟩⟩)
theorem wF{prog:AD}{w:AG}{A:BD}{E:BA->BB->Prop}{it t:BC}{items:Array BA}(hne:t≠it):∀ (n i:Nat) (s:BB) (Q:List BA->BB->Prop),s.heap.IsListIter it t i->s.heap.IsList t items->i+n<=items.size->
  (∀h',h'.IsListIter it t (i+n)->Heap.SameBut it s.heap h'->Q ((items.toList.drop i).take n) {s with heap:=h'})->AE (AF prog w) A (draw (.ref it) n) Q E s
 |0,i,s,Q,hit,_,_,hQ=>by show AE _ _ (pure []) Q E s;exact AC (by simpa using hQ s.heap hit (Heap.SameBut.refl ..))
 |n+1,i,s,Q,hit,ht,hle,hQ=>by
  have hlt:i<items.size:=by omega
  show AE _ _ (pyNext (.ref it)>>=_) Q E s;refine AA<|wpAny_pyNext_list_item hit ht (x:=items[i]) (by simp[hlt]) λh₁ hit₁ hs₁=> ?_;refine AA (AO<|wF hne n (i+1) _ _ hit₁ (ht.extBut hs₁.extBut hne) (by omega) λh₂ hit₂ hs₂=>AC ?_);have hd:items.toList.drop i=items[i]::items.toList.drop (i+1):=by simp[kP,hlt]
  have:=hQ h₂ (by rw[show i+(n+1)=i+1+n by omega];exact hit₂)<|hs₁.trans hs₂;rw[hd,pB] at this;exact this
theorem aAh{prog:AD}{w:AG}{A:BD}{E:BA->BB->Prop}{s:BB}{t:BC}{items:Array BA}{Q:List BA->BB->Prop}(hh:A.handled=none)(ht:s.heap.IsList t items)
  (hQ:∀h',Heap.ExtBut s.heap.objs.size s.heap h'->Q items.toList {s with heap:=h'}):AE (AF prog w) A (unpackItems (.ref t) items.size none) Q E s:=by
 have hlt:t≠s.heap.objs.size:=by obtain⟨o,ho,_⟩:=ht;exact bG<|aK ho
 unfold unpackItems;refine AA ?_;unfold notIterableAtAll;refine AA<|wpAny_specialOf ht.typeIs slot_list_iter.lookup ?_;refine AC ?_;simp only[aZ,if_false];refine AA (AO<|Ap ht ?_);refine AA (AO<|wF hlt items.size 0 _ _ ⟨_,aY _ rfl,rfl,rfl⟩ (ht.at λo e=>aC _ e) (by omega) λh₁ hit₁ hs₁=> ?_)
 have hall:List.take items.size (List.drop 0 items.toList)=items.toList:=by rw[dM];exact eR<|by simp
 rw[hall];rw[if_neg<|by simp];have ht₁:h₁.IsList t items:=(ht.at λo e=>aC _ e).extBut hs₁.extBut hlt;refine AA (AO<|wpAny_pyNext_list_end hh hit₁ ht₁ (by simp) λh₂ he₂=> ?_);simp only[Option.isSome_none,aZ,if_false];exact AC (hQ h₂ λb o hb e=>he₂ b o hb (hs₁.extBut b o hb<|aC _ e))
noncomputable def gLst(K:aA)(n:Nat)(t:TGs):TG:=λv σ H Q=>∃a xs,v=.ref a/\SqL K H a xs/\xs.length=n/\t xs σ H Q
theorem aMf{k:Nat}{t:TGs}{n:Nat}(hc:X.calm=true)(h:PGs X es t)
  (hn:(AV es X.env).length=n:=by rfl) (hst:(AV es X.env).findIdx? (·.1)=none:=by rfl):PG X (.Tuple es k pos) (gLst X.K n t):=by
 intro pins s σ H v u Q I r hw;obtain⟨a,xs,e1,hq,hl,hw⟩:=hw;subst e1;cases r;obtain⟨its,rv,ht,hz⟩:=I.list hq;rw[PyProof.Rows.assign_Tuple];refine AA<|As ?_;unfold unpack;have e2:(AV es X.env).length=its.toArray.size:=by rw[hn,<-hl,rv.length];simp
 rw[e2,hst];refine AA (AO<|aAh (I.ok.hd hc) ht.isList λh' hx=> ?_);have I1:Inv X pins σ H {s with heap:=h'}:=I.kept (t':=s.toks) λb o e=>hx b o (bG<|aK e) e
 exact h pins _ σ H xs _ Q I1 (by simpa using rv) hw
theorem aCO{k:Nat}{js:List Nat}(hc:X.calm=true)(h:PGs X es (gNs js))(hl:js.length=ds.length)(hn:(AV es X.env).length=ds.length)(hst:(AV es X.env).findIdx? (·.1)=none:=by rfl):PGd X sd (.Tuple es k pos) (.lst ds) (yF sd js ds):=.mk λσ F H v S q=>
 (aMf hc h hn hst).to (by
  simp only[Rep] at q;obtain⟨a,xs,rfl,ha,rl⟩:=q
  exact⟨a,xs,rfl,.of (S.sub _ _ ha),rl.len,aCb hl rl S λσ' S'=>⟨F,S',Same.refl _⟩⟩)
theorem sY{sd':List Slot}(h:PEd X sd e (.val d))(hg:PGd X sd tg d sd')(hE:E.nx sd')(hs:swapsWithSole [tg] e pos.line X.env=pure false:=by rfl)(hw:swappedStores [tg] e X.env=pure none:=by rfl)
  (h1:(AV [tg] X.env).map (·.2)=[assign tg X.env]:=by rfl):PSd1 X sd (.Assign [tg] e pos) E:=.mk λσ F H S=>
 (aHd dH aMZ hs hw h1).to ((h σ F H S).imp λv H1 ⟨F1,S1,s1,q1⟩=>(hg σ F1 H1 v S1 q1).imp λσ' H' ⟨F',S',s'⟩=>⟨sd',F',S',s1.trans s',hE⟩)
theorem nL{body:List BG}{P:Hp->Hp->Prop}(Sd Td:Nat->List Slot)(hi:PId X sd P tg iter ds)(h0:Le sd (Sd 0))(hg:∀k d,ds[k]? =some d->PGd X (Sd k) tg d (Td k))
  (hb:∀k d,ds[k]? =some d->PSd X (Td k) body {E with nx:=λsd'=>Le sd' (Sd<|k+1),ct:=λsd'=>Le sd' (Sd<|k+1),bk:=E.nx}) (hE:E.nx (Sd ds.length)) (hP:∀k σ F H,StF X.K X.B₀ F H σ (Sd k)->P F H:=by intros;trivial)
  (hc:X.calm=true:=by rfl) (hp:PassesOwn (AF X.prog X.w) X.A X.env X.xe:=by exact PassesOwn.never) (hs:∀x,Ae iter X.env x=pure x:=by intro _;rfl):PSd1 X sd (.For tg iter body [] pos) E:=.mk λσ F H S=>
 (aGO hp hc aOh aMZ sC hs).to (by
  intro pins s I;refine thn (hi σ F H S pins s I) λv s1 h1=>thn h1 λitv s2 h2=> ?_
  obtain⟨it,fp,tn,J,H2,e,I2,T,st2,f2,F1,S1,s1',itd⟩:=h2;refine⟨it,fp,tn,J,H2,e,I2,T,st2,f2, ?_⟩;refine⟨λi m σ' H'=>m=ds.length-i/\i<=ds.length/\∃F',StF X.K X.B₀ F' H' σ' (Sd i)/\Same F1 F',⟨ds.length,by simp,bU _,F1,S1.le h0,Same.refl _⟩, ?_⟩;rintro i m σ' H' ⟨rfl,hil,F',S',s'⟩;obtain⟨g1,g2,g3⟩:=itd F' H' s' S'.sub S'.smp (hP _ _ _ _ S') i
  by_cases hlt:i<ds.length
  ·refine .inr ⟨g1 hlt,λσ2 H2=>∃F2,StF X.K X.B₀ F2 H2 σ2 (Sd<|i+1)/\Same F1 F2,λσ2 H2 ⟨F2,S2,s2⟩=>⟨ds.length-(i+1),by omega,rfl,hlt,F2,S2,s2⟩,λx H2 y=> ?_⟩;have hd:ds[i]? =some ds[i]:=by simp[hlt]
   obtain⟨F2,s2,rp,up⟩:=g3 x H2 ds[i] hd y;refine(hg i _ hd σ' F2 H2 x (up _ _ _ S') rp).imp λσ3 H3 ⟨F3,S3,s3⟩=> ?_
   have base:Same F1 F3:=(s'.trans s2).trans s3;refine(hb i _ hd σ3 F3 H3 S3).imp ?_ ?_ ?_ ?_
   ·rintro σ4 H4 ⟨sd4,F4,S4,s4,le⟩;exact⟨F4,S4.le le,base.trans s4⟩
   ·exact λv H4 q=>q
   ·rintro σ4 H4 ⟨sd4,F4,S4,s4,q⟩;exact⟨sd4,F4,S4,(s1'.trans base).trans s4,q⟩
   ·rintro σ4 H4 ⟨sd4,F4,S4,s4,le⟩;exact⟨F4,S4.le le,base.trans s4⟩
  ·have e:i=ds.length:=by omega
   subst e
   exact .inl ⟨g2 (aO _),Sd ds.length,F',S',s1'.trans s',hE⟩)
theorem Inv.retrack{pins:List (BC×BF)}{σ:St}{H F:Hp}{s s':BB}(I0:Inv X pins σ H s):∀ (ls:List BC),ls.Nodup->(∀l∈ls,F l=none/\(∃xs,H l=some xs/\Wr l xs)/\∀o,s.heap.get? l=some o->s'.heap.get? l=some o)->Inv X pins σ F s'->Inv X pins σ (λb=>if b∈ls then H b else F b) s'
 |[],_,_,I=>by simpa using I
 |l::ls,nd,h,I=>by
  obtain⟨nl,nd'⟩:=dY.mp nd;have J:=Inv.retrack I0 ls nd' (λl' hl=>h l'<|aH _ hl) I;obtain⟨n,⟨xs,hx,wx⟩,kp⟩:=h l aM
  have e:(λb=>if b∈l::ls then H b else F b)=upd (λb=>if b∈ls then H b else F b) l xs:=by
   funext b;unfold upd
   by_cases hb:b=l
   ·subst hb;simp[hx]
   ·simp[hb]
  rw[e];have n':(λb=>if b∈ls then H b else F b) l=none:=by simp[nl,n]
  have ob:=I0.hok l _ hx;clear e;generalize (λb=>if b∈ls then H b else F b)=G at J n' ⊢;refine⟨J.ok,J.os,J.bare,⟨J.base.keep,J.base.slot,λb u g n0 hx0=> ?_,J.base.there,λb ys g=> ?_,λb u ys g=> ?_,λb ps g=> ?_⟩,J.loc,J.cell, ?_,λx c g=> ?_,λp hp=> ?_,J.hok.track n' ?_,J.len⟩
  ·have hb:b≠l:=λq=>by subst q;have:=I0.base.free b u g n0 hx0;rw[hx] at this;cases this
   rw[bK hb];exact J.base.free b u g n0 hx0
  ·have q:=J.base.tups b ys g;rw[bK<|cF q n'];exact q
  ·have q:=J.base.frzs b u ys g;rw[bK<|cF q n'];exact q
  ·obtain⟨m,q⟩:=J.base.tbls b ps g;exact⟨m,by rw[bK<|cF q n'];exact q⟩
  ·rw[bK λq=>by have:=I0.free;rw[q,hx] at this;cases this];exact J.free
  ·rw[bK λq=>by have:=I0.freeC x c g;rw[q,hx] at this;cases this];exact J.freeC x c g
  ·obtain⟨g,n0,rr⟩:=J.pin p hp;refine⟨g, ?_,rr⟩;rw[bK λq=>by have:=(I0.pin p hp).2.1;rw[q,hx] at this;cases this];exact n0
  ·cases xs with
   |lst xs=>obtain⟨z,its,nn,rv,ho⟩:=ob;exact⟨z,its,nn,rv,kp _ ho⟩
   |dK kvs=>obtain⟨z,y,vs,r,o,es,ep,e,c⟩:=ob;exact⟨z,y,vs,r,o,es,ep,kp _ e,c⟩
   |ext φ=>obtain⟨h1,⟨o1,h2⟩,h3⟩:=ob;exact⟨h3 _ _ h1 kp,⟨o1,kp _ h2⟩,h3⟩
   |_=>exact wx.elim
theorem aLq{P:AD}{w:AG}{h:BE}{l:BC}{xs:HO}(wx:Wr l xs)(q:H l=some xs)(ok:ObjOk P w H h l xs):∃ys o,H l=some ys/\Wr l ys/\h.get? l=some o/\∀v,o.data≠ .cell v:=by
 cases xs with
 |lst xs=>obtain⟨_,its,nn,_,ho⟩:=ok;exact⟨_,_,q,trivial,ho,λv z=>by cases z⟩
 |dK kvs=>obtain⟨_,_,_,_,o,es,ep,e,_,d,_⟩:=ok;exact⟨_,_,q,trivial,e,λv z=>by rw[d] at z;cases z⟩
 |ext φ=>obtain⟨o,e,n⟩:=id wx;subst e;exact⟨_,o,q,wx,ok.1,n⟩
 |_=>exact wx.elim
theorem aEZ(S:StF X.K X.B₀ F H σ sd)(hr:match r with | .bor _=>False|_=>True)(h:wE X e σ F λv F3=>aBI X.K F F3 r v):wE X e σ H λv H'=>∃F',StF X.K X.B₀ F' H' σ sd/\Same F F'/\ResOk X.K F' H' sd r v:=λpins s I=>by
 have I1:Inv X pins σ F s:=I.less S.sub S.base<|S.smp.sub S.sub
 have ob:∀l∈cH sd,∃xs o,H l=some xs/\Wr l xs/\s.heap.get? l=some o/\∀v,o.data≠ .cell v:=λl hl=>by obtain⟨n,xs,q,wx⟩:=S.slots.owns hl;exact aLq wx q<|I.hok l _ q
 have I2:Inv X (pins++lX (cH sd) s.heap) σ F s:=I1.pins_of λp hp=>(aW.mp hp).elim (λz=>I1.pin p<|aJ _ z) λz=>by
  obtain⟨hb,g⟩:=rV z;obtain⟨xs,o,q,_,ho,hc⟩:=ob p.1 hb;rw[g] at ho;cases ho;refine⟨g,(S.slots.owns hb).1,λy=> ?_,λy=> ?_,hc⟩
  ·have:=I.free;rw[<-y,q] at this;cases this
  ·obtain⟨_,o',ho',_⟩:=I.ok.funs.mem y;have:=I.base.free p.1 o' ho' (I.ok.frf p.1 y) λz=>I.ok.exfs p.1 z y
   rw[q] at this;cases this
 refine thn (h _ s I2) λu s' ⟨v,F3,I3,rv,F2,s1,s2,sm3,res⟩=> ?_
 have kp:∀l∈cH sd,F3 l=none/\(∃xs,H l=some xs/\Wr l xs)/\∀o,s.heap.get? l=some o->s'.heap.get? l=some o:=λl hl=>by obtain⟨xs,o,q,wx,ho,_⟩:=ob l hl;have:=I3.pin (l,o)<|aJ _ (aJ _<|gW hl ho);exact⟨this.2.1,⟨xs,q,wx⟩,λo' g=>by rw[ho] at g;cases g;exact this.1⟩
 have I4:=Inv.retrack I (cH sd) S.nd kp I3.unpinned;refine⟨v,_,I4,rv,F2,⟨λb o g=>s1 _ _<|S.base _ _ g,λb o g=> ?_,λb o g=> ?_,S.slots.mono s1 λl hl=>⟨s2.free (kp l hl).1,λxs g=>by simpa[hl] using g⟩,S.nd⟩,s1, ?_⟩
 ·have g3:=s2 _ _ g;have:b∉cH sd:=λhb=>by rw[(kp b hb).1] at g3;cases g3
  simp[this,g3]
 ·by_cases hb:b∈cH sd
  ·simp[hb] at g;exact S.smp _ _ g
  ·simp[hb] at g;exact sm3 _ _ g
 ·cases r with
  |val d=>exact res
  |own ds'=>
   obtain⟨l,xs,e,n,q,rl',_⟩:=res;have:l∉cH sd:=λhl=>by rw[(kp l hl).1] at q;cases q
   exact⟨l,xs,e,n,by simp[this,q],rl',this⟩
  |pr d ls=>
   obtain⟨t,l,xs,y,e,f,g,n,q,rl',_⟩:=res;have:l∉cH sd:=λhl=>by rw[(kp l hl).1] at q;cases q
   exact⟨t,l,xs,y,e,f,g,n,by simp[this,q],rl',this⟩
  |ox G=>
   obtain⟨ls,nd,h,g⟩:=res
   have no:∀l∈ls,l∉cH sd:=λl hl hm=>by obtain⟨n,⟨ob,q,w⟩,_⟩:=h l hl;rw[(kp l hm).1] at q;cases q
   refine⟨ls,nd,λl hl=> ?_,λF' H' sF k=>g F' H' sF λl hl ob q=>k l hl ob<|by simp[no l hl,q]⟩;obtain⟨n,⟨ob,q,w⟩,_⟩:=h l hl;exact⟨n,⟨ob,by simp[no l hl,q],w⟩,no l hl⟩
  |bor ds'=>exact hr.elim
noncomputable def aJQ:Option Slot->Slot
 |some (.val d)=>.val d
 |some (.ox [] G)=>.ox [] G
 |_=>.un
noncomputable def jT(cap:List (Option Nat))(sd:List Slot):List Slot:=cap.map λo=>match o with
 |none=>.un
 |some k=>aJQ sd[k]?
theorem xX{K:aA}{F H F' H':Hp}{σ:St}(h:SlotsOk K F H sd σ)(s:Same F F'):∀cap:List (Option Nat),SlotsOk K F' H' (jT cap sd) (uF cap σ)
 |[]=>rfl
 |o::cap=>by
  refine⟨_,_,rfl, ?_,xX h s cap⟩;cases o with
  |none=>trivial
  |some k=>
   show fO K F' H' (aJQ sd[k]?) _;cases q:sd[k]? with
   |none=>trivial
   |some z=>
    cases z with
    |un=>trivial
    |own l ds=>trivial
    |od l ks ds=>trivial
    |ox ls G=>
     cases ls with
     |cons a ls=>trivial
     |nil=>obtain⟨o,h1,v,h2,h3,h4⟩:=h.get q;subst h2;exact⟨v,by simp[h1],λl hl=>(nomatch hl),λF2 H2 s2 _=>h4 F2 H2 (s.trans s2) λl hl=>(nomatch hl)⟩
    |gh d G=>trivial
    |val d=>obtain⟨o,h1,v,h2,rv⟩:=h.get q;subst h2;exact⟨v,by simp[h1],rv.mono s⟩
theorem oU:∀ (cap:List (Option Nat)) (sd:List Slot),cH (jT cap sd)=[]
 |[],_=>rfl
 |o::cap,sd=>by
  have ih:=oU cap sd;cases o with
  |none=>exact ih
  |some k=>
   show cH (aJQ sd[k]? ::jT cap sd)=[];cases q:sd[k]? with
   |none=>exact ih
   |some z=>
    cases z with
    |ox ls G=>cases ls<;>exact ih
    |_=>exact ih
noncomputable def unS:Slot->Slot
 |.own _ _=>.un
 |.od _ _ _=>.un
 |.ox [] G=>.ox [] G
 |.ox _ _=>.un
 |z=>z
noncomputable def unO(sd:List Slot):List Slot:=sd.map unS
theorem gX:∀sd:List Slot,cH (unO sd)=[]
 |[]=>rfl
 |.un::r=>gX r
 |.val _::r=>gX r
 |.gh _ _::r=>gX r
 |.own _ _::r=>gX r
 |.od _ _ _::r=>gX r
 |.ox [] _::r=>gX r
 |.ox (_::_) _::r=>gX r
theorem aFK(cap:List (Option Nat))(sd:List Slot):jT cap (unO sd)=jT cap sd:=by
 unfold jT;refine jP λo _=> ?_
 cases o with
 |none=>rfl
 |some k=>
  show aJQ (unO sd)[k]? =aJQ sd[k]?;unfold unO;rw[bQ];cases q:sd[k]? with
  |none=>rfl
  |some z=>
   cases z with
   |ox ls G=>cases ls<;>rfl
   |_=>rfl
theorem wJ{K:aA}{F H H':Hp}:∀ {sd:List Slot}{σ:St},SlotsOk K F H sd σ->SlotsOk K F H' (unO sd) σ
 |[],_,h=>h
 |z::zs,σ,h=>by
  obtain⟨o,r,rfl,a,b⟩:=h;refine⟨o,r,rfl, ?_,wJ b⟩;cases z with
  |un=>trivial
  |val d=>exact a
  |gh d G=>exact a
  |od l ks ds=>trivial
  |ox ls G=>
   cases ls with
   |cons a ls=>trivial
   |nil=>obtain⟨v,h2,h3,h4⟩:=a;exact⟨v,h2,λl hl=>(nomatch hl),λF2 H2 s2 _=>h4 F2 H2 s2 λl hl=>(nomatch hl)⟩
  |own l ds=>trivial
theorem kX{i:Nat}(p:D->Bool)(h:ds[i]? =some d):(ds.take<|i+1).filter p=(ds.take i).filter p++(if p d then[d] else[]):=by rw[iK,h,List.filter_append];cases hp:p d<;>simp[hp]
theorem yC{elt:Expr}{ifs:List Expr}{scope:Scope}{N M:List Str}{cap:List (Option Nat)}{sc:Scope}{Tb:D->List Slot}(p:D->Bool)(f:D->D)
  (hi:PId X (unO sd) PT0 tg iter ds) (hl:ds.length<=10000)
  (hsc:X.env.scope=sc) (hcn:lC scope sc=true) (hM:X.N=M) (hcap:jM N M scope sc cap=true) (hk:scope.kind=.function)
  (hg:∀cl C fp s H d,d∈ds->PGd (cxB X N scope cl C fp s H) (jT cap sd) tg d (Tb d))
  (hle:∀d,d∈ds->Le (Tb d) (jT cap sd))
  (ht:∀cl C fp s H d,d∈ds->(ifs=[]/\p d=true)\/∃c,ifs=[c]/\PTd (cxB X N scope cl C fp s H) (Tb d) c (p d))
  (he:∀cl C fp s H d,d∈ds->p d=true->PEd (cxB X N scope cl C fp s H) (Tb d) elt (.val<|f d))
  (hc:X.calm=true:=by rfl) (hs:∀x,Ae iter X.env x=pure x:=by intro _;rfl):
  PEd X sd (.ListComp elt [⟨tg,iter,ifs,0⟩] scope pos) (.own<|(ds.filter p).map f):=.mk λσ F H S=>by
 refine aEZ S trivial ?_;have S0:StF X.K X.B₀ F F σ (unO sd):=⟨S.base,Same.refl _,S.smp.sub S.sub,wJ S.slots,by rw[gX];exact fA⟩;intro pins s I
 have nm:∀y∈scope.names,(y.2=NameKind.free->sc.names.lookup y.1=some NameKind.cell)/\(y.2=NameKind.local->scope.names.lookup y.1=some NameKind.local):=λy hy=>by have q:=bJ.mp hcn y hy;simp only[aR,jI,gB,beq_eq_false_iff_ne,ne_eq,beq_iff_eq] at q;exact⟨λe=>q.1.1.resolve_left λz=>z e,λe=>q.2.resolve_left λz=>z e⟩
 have fre:∀y∈scope.names,y.2=.free->∃c,X.env.cells.lookup y.1=some c:=λy hy e=>I.ok.has y.1 (.inl<|by show X.env.scope.names.lookup y.1=_;rw[hsc];exact(nm y hy).1 e)
 rw[eval_ListComp];refine wpAny_comprehension_free (use:=none) rfl hs (uE fre) hk (λy hy=>(nm y hy).2) ?_;refine thn (hi σ F F S0 pins s I) λv s1 h1=>thn h1 λitv s2 h2=> ?_
 obtain⟨it,fp,tn,J,H2,e,I2,T,st2,f2,F1,S1,s1',itd⟩:=h2;subst e
 have S1b:StF X.K H2 H2 H2 (uF cap σ) (jT cap sd):=⟨Same.refl _,Same.refl _,S1.smp,by
  have q:=xX (sd:=unO sd) (H':=H2) S1.slots S1.sub cap;rw[aFK] at q
  exact q,by rw[oU];exact fA⟩
 refine aAV (N:=N) (cap:=cap) (g:=λv σ2 H3 Q=>∀cl C,wG (cxB X N scope cl C fp s2 H2) tg v σ2 H3 Q) (tt:=λσ2 H3 Q=>∀cl C,aMk (cxB X N scope cl C fp s2 H2) ifs σ2 H3 Q) (te:=λσ2 H3 Q=>∀cl C,wE (cxB X N scope cl C fp s2 H2) elt σ2 H3 Q)
  hc hsc hcn (by rw[hM];exact hcap) hk I2 T st2 f2 (λcl C pi s3 σ3 H3 v u Q I3 ru q=>q cl C pi s3 u I3 ru) (λcl C pi s3 σ3 H3 Q I3 q=>q cl C pi s3 I3) (λcl C pi s3 σ3 H3 Q I3 q=>q cl C pi s3 I3)
  (λi m ys σb H3=>m=ds.length-i/\i<=ds.length/\∃Fb,StF X.K H2 Fb H3 σb (jT cap sd)/\RepL X.K Fb (((ds.take i).filter p).map f) ys) ds.length
  ⟨by simp,bU _,H2,S1b,by simpa using RepL.nil⟩ _ ?_
 rintro i m ys σb H3 ⟨rfl,hil,Fb,Sb,rl⟩;have sF1:Same F1 Fb:=λb o g=>Sb.base _ _<|S1.sub _ _ g
 obtain⟨g1,g2,g3⟩:=itd Fb H3 sF1 Sb.sub Sb.smp trivial i
 by_cases hlt:i<ds.length
 ·have hd:ds[i]? =some ds[i]:=by simp[hlt]
  have hm:ds[i]∈ds:=dE hlt
  have ylen:ys.length<=i:=by rw[rl.len,aD];exact aQ (aBC _ _) (by simp;omega)
  refine .inr ⟨g1 hlt,fQ<|by omega,λys' σ' H'=>∃Fb',StF X.K H2 Fb' H' σ' (jT cap sd)/\RepL X.K Fb' (((ds.take<|i+1).filter p).map f) ys',λys' σ' H' ⟨Fb',Sb',rl'⟩=>⟨ds.length-(i+1),by omega,rfl,hlt,Fb',Sb',rl'⟩,λx H4 y cl C=> ?_⟩;obtain⟨F4,s4,rp,up⟩:=g3 x H4 ds[i] hd y;refine(hg cl C fp s2 H2 _ hm σb F4 H4 x (up _ _ _ Sb) rp).imp λσ5 H5 ⟨F5,S5,s5⟩ cl2 C2=> ?_
  have rl5:=rl.mono<|s4.trans s5
  have fin:∀ (b:Bool) (H6:Hp) (F6:Hp),b=p ds[i]->StF X.K H2 F6 H6 σ5 (Tb ds[i])->Same F5 F6->if b=true then(∀cl C,wE (cxB X N scope cl C fp s2 H2) elt σ5 H6 λv H5=>∃Fb',StF X.K H2 Fb' H5 σ5 (jT cap sd)/\RepL X.K Fb' (((ds.take<|i+1).filter p).map f) (ys++[v])) else ∃Fb',StF X.K H2 Fb' H6 σ5 (jT cap sd)/\RepL X.K Fb' (((ds.take<|i+1).filter p).map f) ys:=λb H6 F6 eb S6 s6=>by
   rw[kX p hd,<-eb];cases b with
   |false=>exact aJE ⟨F6,S6.le<|hle _ hm,by simpa using rl5.mono s6⟩
   |true=>
    refine aJy λcl3 C3=>(he cl3 C3 fp s2 H2 _ hm eb.symm σ5 F6 H6 S6).imp λv H7 ⟨F7,S7,s7,q7⟩=>⟨F7,S7.le<|hle _ hm, ?_⟩
    simp only[if_true,aT,bB,gJ];exact((rl5.mono s6).mono s7).app<|.one q7
  rcases ht cl2 C2 fp s2 H2 _ hm with⟨e1,e2⟩|⟨c,e1,q⟩
  ·subst e1;exact aAq (fin true H5 F5 e2.symm S5<|Same.refl _)
  ·subst e1;exact aAE<|(q σ5 F5 H5 S5).imp λb H6 ⟨eb,F6,S6,s6⟩=>fin b H6 F6 eb S6 s6
 ·have e:i=ds.length:=by omega
  subst e;refine .inl ⟨g2<|aO _,λD C s' hD hC hDC h0 hL hcc hpp hst ⟨m',ns'⟩ J'=>⟨m',ns',λh' sb=> ?_⟩⟩;have J2:Inv X pins σ (upd H3 D<|.lst ys) {s' with heap:=h',toks:=s'.toks}:=J'.turned (it:=C) (λb o hb g=>sb.extBut b o hb g) (by rw[bK<|Ne.symm hDC];exact hC) hL (.inr h0) hcc hpp;refine⟨.ref D,_,J2,rfl,Fb,λb o g=>Sb.base _ _ (S1.sub _ _<|s1' _ _ g),λb o g=> ?_,λb o g=> ?_,D,ys,rfl,Sb.sub.free hD,bR, ?_,by simp[cH]⟩
  ·have g3:=Sb.sub _ _ g;rw[bK<|cF g3 hD];exact g3
  ·by_cases hb:b=D
   ·subst hb;rw[bR] at g;cases g;trivial
   ·rw[bK hb] at g;exact Sb.smp _ _ g
  ·simpa using rl
noncomputable def isI:D->Bool
 |.int _=>true
 |_=>false
noncomputable def isIB:D->Bool
 |.int _=>true
 |.bl _=>true
 |_=>false
noncomputable def isB:D->Bool
 |.bl _=>true
 |_=>false
noncomputable def isT:D->Bool
 |.tup _=>true
 |_=>false
noncomputable def isL:D->Bool
 |.lst _=>true
 |.scr _=>true
 |_=>false
theorem aIt(K:aA)(d:D):aV K (tyD d) (.type "int")=some (isIB d):=by cases d<;>with_unfolding_all rfl
theorem aAO(K:aA)(d:D):aV K (tyD d) (.type "bool")=some (isB d):=by cases d<;>with_unfolding_all rfl
theorem jH(K:aA)(d:D):aV K (tyD d) (.type "tuple")=some (isT d):=by cases d<;>with_unfolding_all rfl
theorem aAp(K:aA)(d:D):aV K (tyD d) (.type "list")=some (isL d):=by cases d<;>with_unfolding_all rfl
theorem PEd.cast{r':R}(h:PEd X sd e r)(q:r=r'):PEd X sd e r':=q▸h
theorem lW{k:Bool}{x o:List BG}(h:PTd X sd c k)(hk:k=false)(h2:PSd X sd o E):PSd1 X sd (.If c x o pos) E:=cX h (λe=>by rw[hk] at e;cases e) λ_=>h2
theorem eG{k:Bool}{x o:List BG}(h:PTd X sd c k)(hk:k=true)(h2:PSd X sd x E):PSd1 X sd (.If c x o pos) E:=cX h (λ_=>h2) λe=>by rw[hk] at e;cases e
theorem gQ{d1 d2:List D}(ha:PEd X sd a (.bor d1))(hb:PEd X sd b (.bor d2))(hl:d1.length+d2.length<=10000):PEd X sd (.BinOp a .Add b pos) (.own<|d1++d2):=
 rP aLe ha hb trivial λσ F H v u Q S q1 q2 k=>by obtain⟨l,xs,e1,h1,r1,_⟩:=q1;obtain⟨m,ys,e2,h2,r2,_⟩:=q2;refine⟨l,m,xs,ys,e1,e2,h1,h2,by rw[r1.len,r2.len];exact dW<|fQ hl,λp hp=> ?_⟩;obtain⟨S2,fp,no⟩:=S.layO (xs:=xs++ys) hp;exact k _ F _ S2 (Same.refl _) ⟨p,_,rfl,fp,bR,r1.app r2,no⟩
theorem nK{i:Int}(ha:PEd X sd a (.bor ds))(hb:PEd X sd b (.val<|.int i))(h0:0<=i)(hd:ds[i.toNat]? =some d)(hs:jW b):PEd X sd (.Subscript a b pos) (.val d):=by
 have e:i=(i.toNat:Int):=by omega
 rw[e] at hb;exact eU ha hb hd hs
theorem aHP{ns:List Int}{i z:Int}(ha:PEd X sd a (.val<|.scr ns))(hb:PEd X sd b (.val<|.int i))(h0:0<=i)(hd:ns[i.toNat]? =some z)(hs:jW b):PEd X sd (.Subscript a b pos) (.val<|.int z):=by
 have e:i=(i.toNat:Int):=by omega
 rw[e] at hb;exact aGQ ha hb hd hs
theorem tR{i:Int}(h:i.natAbs<2^250):Builtin.Int.intBits i<=2^20:=by
 unfold Builtin.Int.intBits
 split
 ·exact bU _
 ·rename_i hz
  have hne:i.natAbs≠0:=by
   intro z;apply hz;have:i=0:=by omega
   subst this;rfl
  have:=(Nat.log2_lt hne).mpr h;have e:(250:Nat)+1<=2^20:=by decide
  omega
theorem rS{i j:Int}(h1:i.natAbs<2^250)(h2:j.natAbs<2^250):IntMulOk i j:=.of_bits (tR h1)<|tR h2
noncomputable def most:Int:=1000*10^64
noncomputable def uK:Int->List Int->List Int
 |_,[]=>[]
 |x,n::ns=>(x%n)::uK (x / n) ns
theorem aAJ:∀ (x:Int) (ns:List Int),(uK x ns).length=ns.length
 |_,[]=>rfl
 |x,n::ns=>by simp[uK,aAJ]
def yG:List D->R->Prop:=λds r=>∃x ns,ds=[.int x,.lst<|ns.map D.int]/\(∀n∈ns,0<n/\n.natAbs.log2<9000)/\ns.length<=100/\r=.own ((uK x ns).map D.int)
noncomputable def sizes14:List (Int×Int):=[(2,2),(1,1),(1,2),(2,1),(1,3),(3,1),(2,3),(3,2),(1,4),(4,1),(1,5),(5,1),(1,6),(6,1)]
noncomputable def bW(p:Int×Int):D:=.tup [.int p.1,.int p.2]
noncomputable def rX(z:Int):Int×Int:=sizes14.getD (z%14).toNat (2,2)
def aKm:List D->R->Prop:=λds r=>∃z,ds=[.int z]/\r=.val (bW<|rX z)
def aMj:List D->R->Prop:=λds r=>∃ns:List Int,ds=[.scr ns]/\ns.length<=63/\r=.val (.bl true)
noncomputable def aJD:Int->List Int->Int
 |x,[]=>x
 |x,n::ns=>aJD (x / n) ns
theorem vY:∀ (x:Int) (ns:List Int) (n:Int),aJD x (ns++[n])=aJD x ns / n
 |_,[],_=>rfl
 |x,m::ns,n=>vY (x / m) ns n
theorem wU:∀ (x:Int) (ns:List Int) (n:Int),uK x (ns++[n])=uK x ns++[aJD x ns%n]
 |_,[],_=>rfl
 |x,m::ns,n=>by show(x%m)::uK (x / m) (ns++[n])=_;rw[wU (x / m) ns n];rfl
theorem aAX{ns:List Int}{k:Nat}(h:(ns.map D.int)[k]? =some d):k<ns.length/\d=.int (ns.getD k 0):=by
 rw[bQ] at h;cases e:ns[k]? with
 |none=>rw[e] at h;cases h
 |some z=>rw[e] at h;refine⟨(bF.mp e).1, ?_⟩;rw[<-cC.inj h,dS,e];rfl
theorem aGZ{i j:Int}{a1 a2 b1:Nat}{p1 p2 p3:Pos}(h1:AB [Expr.Constant (.int i) a1 p1,Expr.Constant (.int j) a2 p2] X.env=(false,eval (Expr.Constant (.int i) a1 p1) X.env)::AB [Expr.Constant (.int j) a2 p2] X.env)
  (h2:AB [Expr.Constant (.int j) a2 p2] X.env=(false,eval (Expr.Constant (.int j) a2 p2) X.env)::AB [] X.env):PEd X sd (.Tuple [.Constant (.int i) a1 p1, .Constant (.int j) a2 p2] b1 p3) (.val<|bW (i,j)):=
 aGz (ds:=[.int i,.int j]) (aB aP (aB aP aN trivial h2) trivial h1) (cG rfl)
theorem aFe{α:Type}{l:List α}{i:Nat}{d:α}(h:i<l.length):l.getD i d∈l:=by
 have e:l.getD i d=l[i]:=by simp[dS,h]
 rw[e];exact dE h
theorem aFQ(h:aMp H):Smp H:=λb o e=>by
 rcases h b with z|⟨o',xs,z⟩
 ·rw[z] at e;cases e
 ·rw[z] at e;cases e;trivial
theorem walkD{l:PySem.W.OpenLaw}{k:Nat}{x:Str}{q:AD}{loose:List Str}{XP:(Str->Option BA)->BE->Prop}{YP:AG->BE->Prop}{d:DefRec}{K:Params->aA}(hn:l.most=some 63)(hdf:d.params.defaults=[])
  (hr:Room k callerA) (hY:∀ (w:AG) (h:BE),YP w h->(K w.params).In h)
  (F:∀ (w:AG) (mg:Str→Option BA) (fa:BC) (h:BE),(K w.params).In h→h.Ns AI mg→mg d.name=some (.ref fa)→
   ∃fd:AJ,(∀ (s:BB) (u:BA),BindsTo s fd ⟨[u],[]⟩ [(x,u)])/\∀base:BE,(K w.params).In base->base.Ns AI mg->FnOk l.prog w (K w.params) mg base CX0 k fa fd [x] (spC (K w.params) 1 aMj)):
  PySem.W.WalkO q loose XP YP l.row.toRowW d [] (λf vs=>PySem.call f vs):=
 L2.walk_of (n:=63) (k:=k) (x:=x) (CX:=λ_=>CX0) (sp:=λw=>spC (K w.params) 1 aMj) hn (by decide) hdf hr hY F
  (λw H a ns hl ho hS=>⟨rfl,aFQ ho,[.scr ns],.val<|.bl true,.one (by simp only[Rep];exact⟨a,rfl,hS⟩),⟨ns,rfl,hl,rfl⟩,λv H' ⟨F,_,_,_,res⟩=>by simpa only[ResOk,Rep] using res⟩) λ_ _ _ _ _ z=>z
variable {pins:List (BC×BF)}{s:BB}{sts:List BG}
noncomputable abbrev reB(X:Cx)(B:Hp)(h:∀b o,X.H₀ b=some o->zK o->B b=some o):Cx:={X with B₀:=B,hB:=h}
theorem aJd{B:Hp}{hb:∀b o,X.H₀ b=some o->zK o->B b=some o}(I:Inv X pins σ H s):Inv (reB X B hb) pins σ H s:=
 ⟨⟨I.ok.mod,I.ok.kind,I.ok.glob,I.ok.blt,I.ok.above,I.ok.inj,I.ok.has,I.ok.cab,I.ok.hd,I.ok.frames,I.ok.stk,I.ok.exf,I.ok.bs,I.ok.bsz,I.ok.noex,I.ok.exfs,I.ok.funs,I.ok.frf⟩,I.os,I.bare,I.base,I.loc,I.cell,I.free,I.freeC,I.pin,I.hok,I.len⟩
theorem tD{B:Hp}{hb:∀b o,X.H₀ b=some o->zK o->B b=some o}(I:Inv (reB X B hb) pins σ H s):Inv X pins σ H s:=
 ⟨⟨I.ok.mod,I.ok.kind,I.ok.glob,I.ok.blt,I.ok.above,I.ok.inj,I.ok.has,I.ok.cab,I.ok.hd,I.ok.frames,I.ok.stk,I.ok.exf,I.ok.bs,I.ok.bsz,I.ok.noex,I.ok.exfs,I.ok.funs,I.ok.frf⟩,I.os,I.bare,I.base,I.loc,I.cell,I.free,I.freeC,I.pin,I.hok,I.len⟩
theorem aJg{B:Hp}{hb:∀b o,X.H₀ b=some o->zK o->B b=some o}{D:sJ}(h:wSs (reB X B hb) sts D σ H):wSs X sts D σ H:=λpins s I=>thn (h pins s<|aJd I) λf s' q=>by
 cases f with
 |next=>obtain⟨σ',H',I',q⟩:=q;exact⟨σ',H',tD I',q⟩
 |brk=>obtain⟨σ',H',I',q⟩:=q;exact⟨σ',H',tD I',q⟩
 |cont=>obtain⟨σ',H',I',q⟩:=q;exact⟨σ',H',tD I',q⟩
 |ret u=>obtain⟨v,σ',H',I',r,q⟩:=q;exact⟨v,σ',H',tD I',r,q⟩
noncomputable def spP(K:aA)(n:Nat)(C:List D->List D->R->Prop):Sp:=λvs H Q _=>vs.length=n/\∃ (l:BC) (us:List V) (F:Hp) (xs:List V) (ds0 ds:List D) (r:R),vs=.ref l::us/\F l=none/\H=upd F l (.lst xs)/\Smp F/\RepL K F ds0 xs/\RepL K F ds us/\C ds0 ds r/\∀v H',aBI K F H' r v->Q v H'
structure aNU(P:AD)(w:AG)(K:aA)(mg:Str->Option BA)(base:BE)(x:Str)(k n:Nat)(C:List D->List D->R->Prop):Prop where
 ex:∃ (f:BC) (fd:AJ) (ps:List Str),mg x=some (.ref f)/\bS K (.ref f)=true/\Binds K fd ps []/\FnOk P w K mg base CX0 k f fd ps (spP K n C)
structure Lent(K:aA) where
 α:Type
 ad:α->BC
 own:α->List BC
 G:α->V->Hp->Hp->Prop
 hv:∀ {a:α}{v:V}{F H:Hp},G a v F H->v=.ref (ad a)
noncomputable def Lent.sl{K:aA}(Z:Lent K)(a:Z.α):Slot:=.ox (Z.own a)<|Z.G a
variable (Z:Lent K)
noncomputable def spL(n:Nat)(C:Z.α->List D->(Z.α->Prop)->Prop):Sp:=λvs H Q _=>vs.length=n/\∃ (v:V) (us:List V) (F:Hp) (a:Z.α) (ds:List D) (post:Z.α->Prop),vs=v::us/\Same F H/\(∀b,b∉Z.own a->H b=F b)/\Smp H/\fO K F H (Z.sl a) (some v)/\(Z.own a).Nodup/\RepL K F ds us/\C a ds post/\(∀a',post a'->Z.ad a'=Z.ad a)/\
 ∀H',(∃F' a',post a'/\Same F F'/\Same F' H'/\Smp H'/\fO K F' H' (Z.sl a') (some v)/\(Z.own a').Nodup)->Q .non H'
noncomputable def spM(n:Nat)(C:Z.α->List D->(Z.α->Prop)->Prop):Sp:=λvs H Q _=>vs.length=n/\Smp H/\∃ (v:V) (us:List V) (F:Hp) (a:Z.α) (ds:List D) (post:Z.α->Prop),vs=v::us/\Same F H/\fO K F H (Z.sl a) (some v)/\(Z.own a).Nodup/\RepL K F ds us/\C a ds post/\(∀a',post a'->Z.ad a'=Z.ad a)/\
 ∀F' H' a',post a'->Same F F'->Same F' H'->Smp H'->fO K F' H' (Z.sl a') (some v)->(Z.own a').Nodup->(∀b o,b∉Z.own a->H b=some o->H' b=some o)->(∀b o,b∉Z.own a->H b=some o->F b=none->F' b=none/\b∉Z.own a')->Q .non H'
open Classical in
noncomputable def uU(as:List BC)(F H:Hp):Hp:=λb=>if b∈as then H b else F b
open Classical in
noncomputable def jJ(as:List BC)(F H:Hp):Hp:=λb=>if b∈as then F b else merge F H b
theorem lE{as:List BC}:Same F (jJ as F H):=λb o e=>by
 unfold jJ
 by_cases h:b∈as
 ·rw[if_pos h];exact e
 ·rw[if_neg h];exact pK _ _ e
theorem qQ{as:List BC}{b:BC}(hb:b∉as)(h:F b=none):jJ as F H b=H b:=by unfold jJ;rw[if_neg hb];exact pF h
theorem xL{as:List BC}{b:BC}(hb:b∈as):uU as F H b=H b:=by unfold uU;rw[if_pos hb]
theorem pT{as:List BC}{b:BC}(hb:b∉as):uU as F H b=F b:=by unfold uU;rw[if_neg hb]
theorem FnOk.framedL{P:AD}{w:AG}{Z:Lent K}{mg:Str->Option BA}{base:BE}{k n:Nat}{f:BC}{fd:AJ}{ps:List Str}{C:Z.α->List D->(Z.α->Prop)->Prop}(G:FnOk P w K mg base CX0 k f fd ps (spL Z n C)):FnOk P w K mg base CX0 k f fd ps (spM Z n C):=by
 have res:∀ {F H:Hp}{a:Z.α}{v:V},Same F H->fO K F H (Z.sl a) (some v)->Same F (uU (Z.own a) F H)/\Same (uU (Z.own a) F H) H/\fO K F (uU (Z.own a) F H) (Z.sl a) (some v):=λ{F H a v} sF so=>by
  obtain⟨v',ev,ow,gg⟩:=so;refine⟨λb o e=> ?_,λb o e=> ?_,v',ev,λb hb=>⟨(ow b hb).1, ?_⟩,λF' H' s k=>gg F' H' s λb hb ob e=>k b hb ob<|by rw[xL hb];exact e⟩
  ·by_cases h:b∈Z.own a
   ·rw[(ow b h).1] at e;cases e
   ·rw[pT h];exact e
  ·by_cases h:b∈Z.own a
   ·rw[xL h] at e;exact e
   ·rw[pT h] at e;exact sF b o e
  ·rw[xL hb];exact(ow b hb).2
 refine⟨λvs H Q E h=> ?_,λA outer s H args us vs Q E hr e0 hb rv h=> ?_⟩
 ·obtain⟨hl,sm,v,us,F,a,ds,post,e,sF,so,nd,rl,c,hp,_⟩:=h;obtain⟨q1,q2,q3⟩:=res sF so;exact G.len vs (uU (Z.own a) F H) (λ_ _=>True) E ⟨hl,v,us,F,a,ds,post,e,q1,λb hb=>pT hb,sm.sub q2,q3,nd,rl,c,hp,λ_ _=>trivial⟩
 ·obtain⟨hl,sm,v,us',F,a,ds,post,ev,sF,so,nd,rl,c,hp,q⟩:=h;obtain⟨q1,sU,q3⟩:=res sF so;obtain⟨_,_,ow,_⟩:=id so;have nU:∀b,b∉Z.own a->F b=none->uU (Z.own a) F H b=none:=λb hbl n=>by rw[pT hbl];exact n
  have e1:Env0 P w K mg base A outer s (uU (Z.own a) F H):=⟨e0.frames,e0.mod,λb o e=>⟨(e0.bs b o e).1,sU.free (e0.bs b o e).2⟩,e0.bsz,e0.funs,λb hb=>sU.free<|e0.frf b hb,λb o e=>(e0.hok b o<|sU b o e).smp (sm b o<|sU b o e),e0.bare⟩;refine Ag (G.run A outer s (uU (Z.own a) F H) args us vs (λv3 F3=>v3=.non/\∃F' a',post a'/\Same F F'/\Same F' F3/\Smp F3/\fO K F' F3 (Z.sl a') (some v)/\(Z.own a').Nodup) E hr e1 hb rv ⟨hl,v,us',F,a,ds,post,ev,q1,λb hb=>pT hb,sm.sub sU,q3,nd,rl,c,hp,λH' z=>⟨rfl,z⟩⟩) λrr s' hrr=> ?_
  cases rr with
  |error e=>exact hrr
  |ok flw=>
   cases flw with
   |ret u=>
    obtain⟨v3,F3,ho,ha,un,hk,ru,e3,F2,a',pa,s1,s2,sm3,so3,nd3⟩:=hrr;subst e3
    have keepF:∀b o,b∉Z.own a->H b=some o->F b=none->F3 b=none:=λb o hbl e n=>by
     have lt:=e0.hok.lt e;cases g:s.heap.get? b with
     |none=>
      exfalso;have ob:=e0.hok b o e;have z:=sm b o e;cases o with
      |lst xs=>obtain⟨_,_,_,_,g'⟩:=ob;rw[g] at g';cases g'
      |tup xs=>obtain⟨_,_,_,oo,g',_⟩:=ob;rw[g] at g';cases g'
      |dK kvs=>obtain⟨_,_,_,_,oo,_,_,g',_⟩:=ob;rw[g] at g';cases g'
      |frz o2 u2=>obtain⟨g',_⟩:=ob;rw[g] at g';cases g'
      |ext φ=>obtain⟨_,⟨oo,g'⟩,_⟩:=ob;rw[g] at g';cases g'
      |_=>exact z
     |some ob=>exact un.free b ob g (nU b hbl n)<|by simp
    have keepO:∀b o,b∉Z.own a->H b=some o->F b=none->∀ob,s.heap.get? b=some ob->s'.heap.get? b=some ob:=λb o hbl e n ob g=>un.keep b ob g (nU b hbl n) (λhb=>by have:=e0.frf b hb;rw[e] at this;cases this)<|by simp
    have sH:∀b o,b∉Z.own a->H b=some o->jJ (Z.own a) F3 H b=some o:=λb o hbl e=>by
     cases g:F b with
     |none=>rw[qQ hbl<|keepF b o hbl e g];exact e
     |some o'=>have:=sF b o' g;rw[e] at this;cases this;exact lE _ _ (s2 _ _<|s1 _ _ g)
    have nl:∀ {b:BC}{o:HO},H b=some o->¬ Wr b o->b∉Z.own a:=λe no z=>by obtain⟨_,ob,g,wr⟩:=ow _ z;rw[e] at g;cases g;exact no wr
    have nn:∀ {b:BC},H b=none->b∉Z.own a:=λe z=>by obtain⟨_,ob,g,_⟩:=ow _ z;rw[e] at g;cases g
    have smM:Smp (jJ (Z.own a) F3 H):=λb o e=>by
     by_cases hbl:b∈Z.own a
     ·unfold jJ at e;rw[if_pos hbl] at e;exact sm3 _ o e
     ·cases g:F3 b with
      |some o'=>have:=lE (as:=Z.own a) (H:=H) b o' g;rw[e] at this;cases this;exact sm3 b o g
      |none=>rw[qQ hbl g] at e;exact sm b o e
    have soM:fO K F2 (jJ (Z.own a) F3 H) (Z.sl a') (some v):=by obtain⟨v',ev,ow3,gg⟩:=so3;refine⟨v',ev,λb hb=>⟨(ow3 b hb).1, ?_⟩,λF' H' s k=>gg F' H' s λb hb ob e=>k b hb ob<|lE _ _ e⟩;obtain⟨_,ob,g,wr⟩:=ow3 b hb;exact⟨ob,lE _ _ g,wr⟩
    refine⟨.non,jJ (Z.own a) F3 H,ho,ha,⟨λb o g n hb hx=>un.keep b o g (sU.free n) hb hx,λb o g n hb hx=>un.slot b o g (sU.free n) hb hx,λb o g n hx=> ?_,un.there,λb xs e=>sH _ _ (nl e λz=>z) e,λb o u e=>sH _ _ (nl e λz=>z) e,λb ps e=>⟨#[],by rw[sH _ _ (nl e λz=>z) e];simp⟩⟩,λb o e=> ?_,ru, ?_⟩
    ·rw[qQ (nn n)<|un.free b o g (sU.free n) hx];exact n
    ·have z:=smM b o e
     by_cases hbl:b∈Z.own a
     ·have e':F3 b=some o:=by unfold jJ at e;rw[if_pos hbl] at e;exact e
      exact(hk b o e').smp z
     ·cases g:F3 b with
      |some o'=>have:=lE (as:=Z.own a) (H:=H) b o' g;rw[e] at this;cases this;exact(hk b o g).smp z
      |none=>
       rw[qQ hbl g] at e
       have n:F b=none:=by
        cases g2:F b with
        |none=>rfl
        |some o2=>rw[s2 _ _<|s1 _ _ g2] at g;cases g
       have st:=(e0.hok b o e).smp (F:=λ_=>none) z
       have:ObjOk P w (fun _=>none) s'.heap b o:=st.stay (fun b2 u hb2 gg=>by
        rcases hb2 with rfl|hb2
        ·exact keepO _ o hbl e n u gg
        ·cases hb2) (λb2 hb2=>nomatch hb2) λb2 xs hb2=>nomatch hb2
       exact this.smp z
    ·refine q F2 (jJ (Z.own a) F3 H) a' pa s1 (s2.trans lE) smM soM nd3 sH λb o hbl e n=> ?_
     have n3:=keepF b o hbl e n;refine⟨s2.free n3,λhb=> ?_⟩;obtain⟨_,_,ow3,_⟩:=so3;obtain⟨_,ob,g,_⟩:=ow3 b hb;rw[n3] at g;cases g
   |_=>exact hrr
theorem tQ:∀ {sd:List Slot}{i:Nat}{z:Slot},(cH sd).Nodup->sd[i]? =some z->(gH z).Nodup
 |[],_,_,_,e=>by simp at e
 |y::zs,0,z,h,e=>by
  have:y=z:=by simpa using e
  subst this;exact(dA.mp (show(gH y++cH zs).Nodup from h)).1
 |y::zs,i+1,z,h,e=>tQ (sd:=zs) (i:=i) (dA.mp (show(gH y++cH zs).Nodup from h)).2.1 (by simpa using e)
structure aOa(P:AD)(w:AG)(K:aA)(Z:Lent K)(mg:Str->Option BA)(base:BE)(x:Str)(k n:Nat)(C:Z.α->List D->(Z.α->Prop)->Prop):Prop where
 ex:∃ (f:BC) (fd:AJ) (ps:List Str),mg x=some (.ref f)/\bS K (.ref f)=true/\Binds K fd ps []/\FnOk P w K mg base CX0 k f fd ps (spL Z n C)
noncomputable def zO{K:aA}(Z:Lent K)(n:Nat)(a:Z.α)(ds:List D):List Slot:=Z.sl a::(ds.map Slot.val++bL (n-(ds.length+1)) .un)
mutual
noncomputable def deq:D->D->Bool
 |.non,.non=>true
 |.bl a,.bl b=>a==b
 |.bl a,.int b=>(if a then 1 else 0)==b
 |.int a,.bl b=>a==(if b then 1 else 0)
 |.int a,.int b=>a==b
 |.str a,.str b=>a==b
 |.tup a,.tup b=>jR a b
 |.lst a,.lst b=>jR a b
 |_,_=>false
noncomputable def jR:List D->List D->Bool
 |[],[]=>true
 |x::xs,y::ys=>deq x y&&jR xs ys
 |_,_=>false
end
mutual
noncomputable def pl:D->Bool
 |.dic=>false
 |.dki _ _=>false
 |.any _=>false
 |.scr _=>false
 |.tup ds=>plL ds
 |.lst ds=>plL ds
 |_=>true
noncomputable def plL:List D->Bool
 |[]=>true
 |d::ds=>pl d&&plL ds
end
mutual
noncomputable def dep:D->Nat
 |.tup ds=>lY ds+1
 |.lst ds=>lY ds+1
 |_=>0
noncomputable def lY:List D->Nat
 |[]=>0
 |d::ds=>max (dep d)<|lY ds
end
theorem qU:∀ {ds:List D}{i:Nat}{d:D},plL ds=true->ds[i]? =some d->pl d=true
 |[],i,d,_,e=>by simp at e
 |d'::ds,i,d,h,e=>by
  simp only[plL,aR] at h;cases i with
  |zero=>simp at e;subst e;exact h.1
  |succ i=>exact qU h.2 (by simpa using e)
theorem mX:∀ {ds:List D}{i:Nat}{d:D},ds[i]? =some d->dep d<=lY ds
 |[],i,d,e=>by simp at e
 |d'::ds,i,d,e=>by
  simp only[lY];cases i with
  |zero=>simp at e;subst e;exact Nat.le_max_left _ _
  |succ i=>exact aQ (mX (i:=i)<|by simpa using e)<|Nat.le_max_right _ _
theorem deqL_iff:∀ {xs ys:List D},jR xs ys=true↔xs.length=ys.length/\∀ (j:Nat) (x y:D),xs[j]? =some x->ys[j]? =some y->deq x y=true
 |[],[]=>by simp[jR]
 |[],y::ys=>by simp[jR]
 |x::xs,[]=>by simp[jR]
 |x::xs,y::ys=>by
  simp only[jR,aR,bM,deqL_iff (xs:=xs) (ys:=ys)]
  constructor
  ·rintro⟨h1,h2,h3⟩;refine⟨by omega,λj a b ea eb=> ?_⟩;cases j with
   |zero=>simp at ea eb;subst ea eb;exact h1
   |succ j=>exact h3 j a b (by simpa using ea) (by simpa using eb)
  ·rintro⟨h1,h2⟩;exact⟨h2 0 x y rfl rfl,by omega,λj a b ea eb=>h2 (j+1) a b (by simpa using ea)<|by simpa using eb⟩
mutual
theorem uY{K:aA}{H:Hp}:∀ {d1 d2:D}{v:V},pl d1=true->Rep K H d1 v->Rep K H d2 v->pl d2=true->deq d1 d2=true
 |.non,d2,v,_,r1,r2,_=>by simp only[Rep] at r1;subst r1;cases d2<;>simp_all[Rep,deq]
 |.bl b,d2,v,_,r1,r2,_=>by simp only[Rep] at r1;subst r1;cases d2<;>simp_all[Rep,deq]
 |.int b,d2,v,_,r1,r2,_=>by simp only[Rep] at r1;subst r1;cases d2<;>simp_all[Rep,deq]
 |.str b,d2,v,_,r1,r2,_=>by simp only[Rep] at r1;subst r1;cases d2<;>simp_all[Rep,deq]
 |.dic,_,_,h,_,_,_=>by simp[pl] at h
 |.dki _ _,_,_,h,_,_,_=>by simp[pl] at h
 |.any _,_,_,h,_,_,_=>by simp[pl] at h
 |.scr _,_,_,h,_,_,_=>by simp[pl] at h
 |.tup ds,d2,v,p1,r1,r2,p2=>by
  simp only[Rep] at r1;obtain⟨a,xs,rfl,ha,rl⟩:=r1;cases d2 with
  |tup es=>simp only[Rep] at r2;obtain⟨a',xs',e,ha',rl'⟩:=r2;cases e;rw[ha] at ha';cases ha';simp only[deq];exact rJ (by simpa[pl] using p1) rl rl' (by simpa[pl] using p2)
  |lst es=>simp only[Rep] at r2;obtain⟨a',xs',e,ha',rl'⟩:=r2;cases e;rw[ha] at ha';cases ha'
  |dic=>simp[pl] at p2
  |dki=>simp[pl] at p2
  |any=>simp[pl] at p2
  |scr=>simp[pl] at p2
  |_=>simp[Rep] at r2
 |.lst ds,d2,v,p1,r1,r2,p2=>by
  simp only[Rep] at r1;obtain⟨a,xs,rfl,ha,rl⟩:=r1;cases d2 with
  |lst es=>simp only[Rep] at r2;obtain⟨a',xs',e,ha',rl'⟩:=r2;cases e;rw[ha] at ha';cases ha';simp only[deq];exact rJ (by simpa[pl] using p1) rl rl' (by simpa[pl] using p2)
  |tup es=>simp only[Rep] at r2;obtain⟨a',xs',e,ha',rl'⟩:=r2;cases e;rw[ha] at ha';cases ha'
  |dic=>simp[pl] at p2
  |dki=>simp[pl] at p2
  |any=>simp[pl] at p2
  |scr=>simp[pl] at p2
  |_=>simp[Rep] at r2
theorem rJ{K:aA}{H:Hp}:∀ {ds es:List D}{xs:List V},plL ds=true->RepL K H ds xs->RepL K H es xs->plL es=true->jR ds es=true
 |[],es,xs,_,r1,r2,_=>by
  simp only[RepL] at r1;subst r1;cases es with
  |nil=>rfl
  |cons e es=>obtain⟨y,ys,z,_⟩:=r2.uncons;cases z
 |d::ds,es,xs,p1,r1,r2,p2=>by
  obtain⟨y,ys,rfl,a,rl⟩:=r1.uncons;cases es with
  |nil=>simp only[RepL] at r2;cases r2
  |cons e es=>obtain⟨y',ys',z,a',rl'⟩:=r2.uncons;cases z;simp only[plL,aR] at p1 p2;simp only[jR,aR];exact⟨uY p1.1 a a' p2.1,rJ p1.2 rl rl' p2.2⟩
end
noncomputable def pX:D->Bool
 |.non=>true
 |.bl _=>true
 |.int _=>true
 |.str _=>true
 |_=>false
theorem sT(h:pX d=true)(r:Rep K H d v):aEQ v=true/\flt d=some v:=by cases d<;>simp_all[pX,Rep,aEQ,flt]
variable {P:AD}{w:AG}
theorem iV(hok:HOk P w H s.heap){u:BA}(r:Rep K H (.tup ds) v)(ru:RelV v u):∃a xs its,u=.ref a/\v=.ref a/\RepL K H ds xs/\Vals xs its/\s.heap.IsTuple a its.toArray:=by simp only[Rep] at r;obtain⟨a,xs,rfl,ha,rl⟩:=r;cases ru;obtain⟨_,its,rv,p⟩:=(show ObjOk P w H s.heap a (.tup xs) from hok a _ ha);exact⟨a,xs,its,rfl,rfl,rl,rv,p.tup⟩
theorem iB(hok:HOk P w H s.heap){u:BA}(r:Rep K H (.lst ds) v)(ru:RelV v u):∃a xs its,u=.ref a/\v=.ref a/\RepL K H ds xs/\Vals xs its/\s.heap.IsList a its.toArray:=by simp only[Rep] at r;obtain⟨a,xs,rfl,ha,rl⟩:=r;cases ru;obtain⟨_,its,n,rv,p⟩:=(show ObjOk P w H s.heap a (.lst xs) from hok a _ ha);exact⟨a,xs,its,rfl,rfl,rl,rv,_,p,rfl,n,rfl⟩
noncomputable def dAt(ds es:List D)(j:Nat):Bool:=match ds[j]?,es[j]? with
 |some x,some y=>deq x y
 |_,_=>false
theorem qK(ds es:List D):((cI<|min ds.length es.length).all (dAt ds es)&&ds.length==es.length)=jR ds es:=by
 rw[dZ,deqL_iff,aR,bJ,beq_iff_eq]
 constructor
 ·rintro⟨h1,h2⟩;refine⟨h2,λj x y ex ey=> ?_⟩;have hj:j<ds.length:=(bF.mp ex).1;have:=h1 j (cE.mpr<|by omega);unfold dAt at this;rw[ex,ey] at this;exact this
 ·rintro⟨h1,h2⟩;refine⟨λj hj=> ?_,h1⟩;have hj':=cE.mp hj;have e1:ds[j]? =some (ds[j]'(by omega)):=by simp
  have e2:es[j]? =some (es[j]'(by omega)):=by simp
  unfold dAt;rw[e1,e2];exact h2 j _ _ e1 e2
theorem rR{es:List D}(h:ds.length=es.length):(cI ds.length).all (dAt ds es)=jR ds es:=by have:=qK ds es;rw[h] at this ⊢;simpa using this
theorem tO{es:List D}(h:ds.length≠es.length):jR ds es=false:=by
 cases e:jR ds es with
 |false=>rfl
 |true=>exact absurd (deqL_iff.mp e).1 h
mutual
theorem rZ(hok:HOk P w H s.heap):∀ (d1:D) {d2:D}{v1 v2:V}{u1 u2:BA}{A:BD},pl d1=true->pl d2=true->Rep K H d1 v1->Rep K H d2 v2->RelV v1 u1->RelV v2 u2->A.units+dep d1<AN->SeqAt.EqAt A s u1 u2 (deq d1 d2)
 |.tup ds,d2,v1,v2,u1,u2,A,p1,p2,r1,r2,ru1,ru2,hu=>by
  have hu':A.units<AN:=by omega
  obtain⟨a,xs,its,rfl,rfl,rl,rv,ht⟩:=iV hok r1 ru1;cases d2 with
  |non=>simp only[Rep] at r2;subst r2;cases ru2;exact SeqAt.EqAt.tuple_none ht hu'
  |bl b=>simp only[Rep] at r2;subst r2;cases ru2;exact SeqAt.EqAt.tuple_bool b ht hu'
  |int b=>simp only[Rep] at r2;subst r2;obtain⟨t,rfl⟩:=ru2;exact SeqAt.EqAt.tuple_int b t ht hu'
  |str b=>simp only[Rep] at r2;subst r2;obtain⟨t,rfl⟩:=ru2;exact SeqAt.EqAt.tuple_str b t ht hu'
  |dic=>simp[pl] at p2
  |dki=>simp[pl] at p2
  |any=>simp[pl] at p2
  |scr=>simp[pl] at p2
  |lst es=>obtain⟨b,ys,jts,rfl,rfl,rl2,rv2,hl2⟩:=iB hok r2 ru2;exact SeqAt.EqAt.tuple_list ht hl2 hu'
  |tup es=>
   obtain⟨b,ys,jts,rfl,e2,rl2,rv2,ht2⟩:=iV hok r2 ru2
   by_cases hab:a=b
   ·subst hab;have:=uY p1 r1 (e2▸r2) p2;rw[this];exact SeqAt.EqAt.same _
   ·simp only[deq];rw[<-qK];have l1:its.toArray.size=ds.length:=by rw[aI,<-rv.length,rl.len]
    have l2:jts.toArray.size=es.length:=by rw[aI,<-rv2.length,rl2.len]
    rw[<-l1,<-l2];simp only[pl] at p1 p2;simp only[dep] at hu;refine .of_refs hab<|.tuples ht ht2 hu' λj h1 h2=> ?_;exact oS hok ds p1 p2 rl rl2 rv rv2 (A:=A.in1) (by show A.units+1+_<AN;omega) (by simp)<|by simp
 |.lst ds,d2,v1,v2,u1,u2,A,p1,p2,r1,r2,ru1,ru2,hu=>by
  have hu':A.units<AN:=by omega
  obtain⟨a,xs,its,rfl,rfl,rl,rv,ht⟩:=iB hok r1 ru1;cases d2 with
  |non=>simp only[Rep] at r2;subst r2;cases ru2;exact SeqAt.EqAt.list_none ht hu'
  |bl b=>simp only[Rep] at r2;subst r2;cases ru2;exact SeqAt.EqAt.list_bool b ht hu'
  |int b=>simp only[Rep] at r2;subst r2;obtain⟨t,rfl⟩:=ru2;exact SeqAt.EqAt.list_int b t ht hu'
  |str b=>simp only[Rep] at r2;subst r2;obtain⟨t,rfl⟩:=ru2;exact SeqAt.EqAt.list_str b t ht hu'
  |dic=>simp[pl] at p2
  |dki=>simp[pl] at p2
  |any=>simp[pl] at p2
  |scr=>simp[pl] at p2
  |tup es=>obtain⟨b,ys,jts,rfl,rfl,rl2,rv2,hl2⟩:=iV hok r2 ru2;exact SeqAt.EqAt.list_tuple ht hl2 hu'
  |lst es=>
   obtain⟨b,ys,jts,rfl,e2,rl2,rv2,ht2⟩:=iB hok r2 ru2
   by_cases hab:a=b
   ·subst hab;have:=uY p1 r1 (e2▸r2) p2;rw[this];exact SeqAt.EqAt.same _
   ·simp only[deq];have l1:its.toArray.size=ds.length:=by rw[aI,<-rv.length,rl.len]
    have l2:jts.toArray.size=es.length:=by rw[aI,<-rv2.length,rl2.len]
    simp only[pl] at p1 p2;simp only[dep] at hu
    by_cases hl:ds.length=es.length
    ·rw[<-rR hl,<-l1];refine .of_refs hab<|.lists ht ht2 (by rw[l1,l2,hl]) hu' λj h1 h2=> ?_;exact oS hok ds p1 p2 rl rl2 rv rv2 (A:=A.in1) (by show A.units+1+_<AN;omega) (by simp)<|by simp
    ·rw[tO hl];exact .of_refs hab<|.lists_lengths ht ht2 (by rw[l1,l2];simpa using hl) hu'
 |.dic,_,_,_,_,_,_,p1,_,_,_,_,_,_=>by simp[pl] at p1
 |.dki _ _,_,_,_,_,_,_,p1,_,_,_,_,_,_=>by simp[pl] at p1
 |.any _,_,_,_,_,_,_,p1,_,_,_,_,_,_=>by simp[pl] at p1
 |.scr _,_,_,_,_,_,_,p1,_,_,_,_,_,_=>by simp[pl] at p1
 |.non,d2,v1,v2,u1,u2,A,p1,p2,r1,r2,ru1,ru2,hu=>by
  have hu':A.units<AN:=by omega
  simp only[Rep] at r1;subst r1;cases hf:pX d2 with
  |true=>obtain⟨h1,h2⟩:=sT hf r2;have:=yU (A:=A) (s:=s) ru1 ru2 rfl h1;cases d2<;>simp_all[pX,flt,Rep,deq,eqV]
  |false=>
   cases ru1;cases d2 with
   |tup es=>obtain⟨b,ys,jts,rfl,e2,rl2,rv2,ht2⟩:=iV hok r2 ru2;exact SeqAt.EqAt.none_tuple ht2 hu'
   |lst es=>obtain⟨b,ys,jts,rfl,e2,rl2,rv2,ht2⟩:=iB hok r2 ru2;exact SeqAt.EqAt.none_list ht2 hu'
   |dic=>simp[pl] at p2
   |dki=>simp[pl] at p2
   |any=>simp[pl] at p2
   |scr=>simp[pl] at p2
   |_=>simp[pX] at hf
 |.bl q,d2,v1,v2,u1,u2,A,p1,p2,r1,r2,ru1,ru2,hu=>by
  have hu':A.units<AN:=by omega
  simp only[Rep] at r1;subst r1;cases hf:pX d2 with
  |true=>obtain⟨h1,h2⟩:=sT hf r2;have:=yU (A:=A) (s:=s) ru1 ru2 rfl h1;cases d2<;>simp_all[pX,flt,Rep,deq,eqV]
  |false=>
   cases ru1;cases d2 with
   |tup es=>obtain⟨b,ys,jts,rfl,e2,rl2,rv2,ht2⟩:=iV hok r2 ru2;exact SeqAt.EqAt.bool_tuple q ht2 hu'
   |lst es=>obtain⟨b,ys,jts,rfl,e2,rl2,rv2,ht2⟩:=iB hok r2 ru2;exact SeqAt.EqAt.bool_list q ht2 hu'
   |dic=>simp[pl] at p2
   |dki=>simp[pl] at p2
   |any=>simp[pl] at p2
   |scr=>simp[pl] at p2
   |_=>simp[pX] at hf
 |.int q,d2,v1,v2,u1,u2,A,p1,p2,r1,r2,ru1,ru2,hu=>by
  have hu':A.units<AN:=by omega
  simp only[Rep] at r1;subst r1;cases hf:pX d2 with
  |true=>obtain⟨h1,h2⟩:=sT hf r2;have:=yU (A:=A) (s:=s) ru1 ru2 rfl h1;cases d2<;>simp_all[pX,flt,Rep,deq,eqV]
  |false=>
   obtain⟨t,rfl⟩:=ru1;cases d2 with
   |tup es=>obtain⟨b,ys,jts,rfl,e2,rl2,rv2,ht2⟩:=iV hok r2 ru2;exact SeqAt.EqAt.int_tuple q t ht2 hu'
   |lst es=>obtain⟨b,ys,jts,rfl,e2,rl2,rv2,ht2⟩:=iB hok r2 ru2;exact SeqAt.EqAt.int_list q t ht2 hu'
   |dic=>simp[pl] at p2
   |dki=>simp[pl] at p2
   |any=>simp[pl] at p2
   |scr=>simp[pl] at p2
   |_=>simp[pX] at hf
 |.str q,d2,v1,v2,u1,u2,A,p1,p2,r1,r2,ru1,ru2,hu=>by
  have hu':A.units<AN:=by omega
  simp only[Rep] at r1;subst r1;cases hf:pX d2 with
  |true=>obtain⟨h1,h2⟩:=sT hf r2;have:=yU (A:=A) (s:=s) ru1 ru2 rfl h1;cases d2<;>simp_all[pX,flt,Rep,deq,eqV]
  |false=>
   obtain⟨t,rfl⟩:=ru1;cases d2 with
   |tup es=>obtain⟨b,ys,jts,rfl,e2,rl2,rv2,ht2⟩:=iV hok r2 ru2;exact SeqAt.EqAt.str_tuple q t ht2 hu'
   |lst es=>obtain⟨b,ys,jts,rfl,e2,rl2,rv2,ht2⟩:=iB hok r2 ru2;exact SeqAt.EqAt.str_list q t ht2 hu'
   |dic=>simp[pl] at p2
   |dki=>simp[pl] at p2
   |any=>simp[pl] at p2
   |scr=>simp[pl] at p2
   |_=>simp[pX] at hf
theorem oS(hok:HOk P w H s.heap):∀ (ds:List D) {es:List D}{xs ys:List V}{its jts:List BA}{j:Nat}{x y:BA}{A:BD},plL ds=true->plL es=true->RepL K H ds xs->RepL K H es ys->Vals xs its->Vals ys jts->A.units+lY ds<AN->its[j]? =some x->jts[j]? =some y->SeqAt.EqAt A s x y (dAt ds es j)
 |[],es,xs,ys,its,jts,j,x,y,A,_,_,r1,_,v1,_,_,e1,_=>by simp only[RepL] at r1;subst r1;cases v1;simp at e1
 |d::ds,es,xs,ys,its,jts,j,x,y,A,p1,p2,r1,r2,v1,v2,hu,e1,e2=>by
  obtain⟨a,as,rfl,ra,rl⟩:=r1.uncons;cases v1 with
  |cons va vas=>
   cases es with
   |nil=>simp only[RepL] at r2;subst r2;cases v2;simp at e2
   |cons e es=>
    obtain⟨b,bs,rfl,rb,rl2⟩:=r2.uncons;cases v2 with
    |cons vb vbs=>
     simp only[plL,aR] at p1 p2;simp only[lY] at hu;cases j with
     |zero=>simp at e1 e2;subst e1 e2;exact rZ hok d p1.1 p2.1 ra rb va vb<|by omega
     |succ j=>exact oS hok ds p1.2 p2.2 rl rl2 vas vbs (by omega) (by simpa using e1) (by simpa using e2)
end
theorem rc_D{d1 d2:D}{u:V}{x y:BA}{Q:BA->BB->Prop}(I:Inv X pins σ H s)(hs:(isT d1=true/\isT d2=true)\/(isL d1=true/\isL d2=true))(p1:pl d1=true)(p2:pl d2=true)(r1:Rep K H d1 v)(r2:Rep K H d2 u)(rx:RelV v x)(ry:RelV u y)
  (hu:X.A.units+dep d1+1<AN) (q:Q (.bool<|deq d1 d2) s):AE (AF X.prog X.w) X.A (AK .Eq x y) Q X.xe s:=by
 have hu':X.A.units<AN:=by omega
 rcases hs with⟨t1,t2⟩|⟨t1,t2⟩
 ·cases d1<;>first|(simp[isT] at t1;done)|skip
  cases d2<;>first|(simp[isT] at t2;done)|skip
  rename_i ds es;obtain⟨a,xs,its,rfl,rfl,rl,rv,ht⟩:=iV I.hok r1 rx;obtain⟨b,ys,jts,rfl,rfl,rl2,rv2,ht2⟩:=iV I.hok r2 ry;have l1:its.toArray.size=ds.length:=by rw[aI,<-rv.length,rl.len]
  have l2:jts.toArray.size=es.length:=by rw[aI,<-rv2.length,rl2.len]
  simp only[pl] at p1 p2;simp only[dep] at hu;simp only[deq] at q;rw[<-qK,<-l1,<-l2] at q;exact SeqAt.eq_tupleAt ht ht2 hu' (λj h1 h2=>oS I.hok ds p1 p2 rl rl2 rv rv2 (A:=X.A.in1) (by show X.A.units+1+_<AN;omega) (by simp)<|by simp) q
 ·cases d1<;>first|(simp[isL] at t1;done)|(simp[pl] at p1;done)|skip
  cases d2<;>first|(simp[isL] at t2;done)|(simp[pl] at p2;done)|skip
  rename_i ds es;obtain⟨a,xs,its,rfl,rfl,rl,rv,ht⟩:=iB I.hok r1 rx;obtain⟨b,ys,jts,rfl,rfl,rl2,rv2,ht2⟩:=iB I.hok r2 ry;have l1:its.toArray.size=ds.length:=by rw[aI,<-rv.length,rl.len]
  have l2:jts.toArray.size=es.length:=by rw[aI,<-rv2.length,rl2.len]
  simp only[pl] at p1 p2;simp only[dep] at hu;simp only[deq] at q
  by_cases hl:ds.length=es.length
  ·rw[<-rR hl,<-l1] at q;exact SeqAt.eq_listAt ht ht2 (by rw[l1,l2,hl]) hu' (λj h1 h2=>oS I.hok ds p1 p2 rl rl2 rv rv2 (A:=X.A.in1) (by show X.A.units+1+_<AN;omega) (by simp)<|by simp) q
  ·rw[tO hl] at q;exact SeqAt.eq_list_lengthsAt ht ht2 (by rw[l1,l2];simpa using hl) hu' q
theorem aNl{d1 d2:D}{u:V}{x y:BA}{Q:BA->BB->Prop}(I:Inv X pins σ H s)(hs:(isT d1=true/\isT d2=true)\/(isL d1=true/\isL d2=true))(p1:pl d1=true)(p2:pl d2=true)(r1:Rep K H d1 v)(r2:Rep K H d2 u)(rx:RelV v x)(ry:RelV u y)
  (hu:X.A.units+dep d1+1<AN) (q:Q (.bool<|!deq d1 d2) s):AE (AF X.prog X.w) X.A (AK .NotEq x y) Q X.xe s:=by
 have hu':X.A.units<AN:=by omega
 rcases hs with⟨t1,t2⟩|⟨t1,t2⟩
 ·cases d1<;>first|(simp[isT] at t1;done)|skip
  cases d2<;>first|(simp[isT] at t2;done)|skip
  rename_i ds es;obtain⟨a,xs,its,rfl,rfl,rl,rv,ht⟩:=iV I.hok r1 rx;obtain⟨b,ys,jts,rfl,rfl,rl2,rv2,ht2⟩:=iV I.hok r2 ry;have l1:its.toArray.size=ds.length:=by rw[aI,<-rv.length,rl.len]
  have l2:jts.toArray.size=es.length:=by rw[aI,<-rv2.length,rl2.len]
  simp only[pl] at p1 p2;simp only[dep] at hu;simp only[deq] at q;rw[<-qK,<-l1,<-l2] at q;exact SeqAt.RcNeAt.tuples ht ht2 hu' (λj h1 h2=>oS I.hok ds p1 p2 rl rl2 rv rv2 (A:=X.A.in1) (by show X.A.units+1+_<AN;omega) (by simp)<|by simp) _ _ _ _ q
 ·cases d1<;>first|(simp[isL] at t1;done)|(simp[pl] at p1;done)|skip
  cases d2<;>first|(simp[isL] at t2;done)|(simp[pl] at p2;done)|skip
  rename_i ds es;obtain⟨a,xs,its,rfl,rfl,rl,rv,ht⟩:=iB I.hok r1 rx;obtain⟨b,ys,jts,rfl,rfl,rl2,rv2,ht2⟩:=iB I.hok r2 ry;have l1:its.toArray.size=ds.length:=by rw[aI,<-rv.length,rl.len]
  have l2:jts.toArray.size=es.length:=by rw[aI,<-rv2.length,rl2.len]
  simp only[pl] at p1 p2;simp only[dep] at hu;simp only[deq] at q
  by_cases hl:ds.length=es.length
  ·rw[<-rR hl,<-l1] at q;exact SeqAt.RcNeAt.lists ht ht2 (by rw[l1,l2,hl]) hu' (λj h1 h2=>oS I.hok ds p1 p2 rl rl2 rv rv2 (A:=X.A.in1) (by show X.A.units+1+_<AN;omega) (by simp)<|by simp) _ _ _ _ q
  ·rw[tO hl] at q;exact SeqAt.RcNeAt.lists_lengths ht ht2 (by rw[l1,l2];simpa using hl) hu' _ _ _ _ q
theorem ResOk.rep(S:StF K H₀ F H σ sd)(hk:r.keeps)(q:ResOk K F H sd r v):Rep K H r.toD v:=by
 cases r with
 |val d=>exact Rep.mono S.sub q
 |own ds=>exact hk.elim
 |pr d ls=>exact hk.elim
 |ox G=>exact hk.elim
 |bor ds=>obtain⟨l,xs,e,hl,rl,_⟩:=q;simp only[R.toD,Rep];exact⟨l,xs,e,hl,rl.mono S.sub⟩
theorem aGS(K:aA)(d1 d2:D)(hs:(isT d1=true/\isT d2=true)\/(isL d1=true/\isL d2=true))(p1:pl d1=true)(p2:pl d2=true)(hu:X.A.units+dep d1+1<AN):OpR X (AK .Eq) (λx y H Q=>Rep K H d1 x/\Rep K H d2 y/\Q (.bl<|deq d1 d2) H):=by intro pins s σ H x y v u Q I rx ry h;obtain⟨h1,h2,q⟩:=h;exact rc_D I hs p1 p2 h1 h2 rx ry hu ⟨.bl<|deq d1 d2,H,I,rfl,q⟩
theorem aLH(K:aA)(d1 d2:D)(hs:(isT d1=true/\isT d2=true)\/(isL d1=true/\isL d2=true))(p1:pl d1=true)(p2:pl d2=true)(hu:X.A.units+dep d1+1<AN):OpR X (AK .NotEq) (λx y H Q=>Rep K H d1 x/\Rep K H d2 y/\Q (.bl<|!deq d1 d2) H):=by intro pins s σ H x y v u Q I rx ry h;obtain⟨h1,h2,q⟩:=h;exact aNl I hs p1 p2 h1 h2 rx ry hu ⟨.bl<|!deq d1 d2,H,I,rfl,q⟩
theorem aKz(ha:PEd X sd a ra)(hb:PEd X sd b rb)(ka:ra.keeps)(kb:rb.keeps)(hs:(isT ra.toD=true/\isT rb.toD=true)\/(isL ra.toD=true/\isL rb.toD=true))(p1:pl ra.toD=true)(p2:pl rb.toD=true)(hu:X.A.units+dep ra.toD+1<AN):PEd X sd (.Compare a [.Eq] [b] pos) (.val (.bl<|deq ra.toD rb.toD)):=
 sV (aGS X.K _ _ hs p1 p2 hu) ha hb ka (eK _) λσ F H v u Q S q1 q2 k=>⟨q1.rep S ka,q2.rep S kb,k F H S<|Same.refl _⟩
theorem aDy(ha:PEd X sd a ra)(hb:PEd X sd b rb)(ka:ra.keeps)(kb:rb.keeps)(hs:(isT ra.toD=true/\isT rb.toD=true)\/(isL ra.toD=true/\isL rb.toD=true))(p1:pl ra.toD=true)(p2:pl rb.toD=true)(hu:X.A.units+dep ra.toD+1<AN):PTd X sd (.Compare a [.NotEq] [b] pos) (!deq ra.toD rb.toD):=
 fY (aLH X.K _ _ hs p1 p2 hu) ha hb ka (eK _) λσ F H v u Q S q1 q2 k=>⟨q1.rep S ka,q2.rep S kb,k F H S<|Same.refl _⟩
noncomputable def aKK(K:aA):R2:=λx y H Q=>∃a b ys,x=.ref a/\y=.ref b/\SqT K H a []/\SqT K H b ys/\Q (.ref b) H
theorem op_catT0:OpR X (Af .Add) (aKK X.K):=by
 intro pins s σ H x y v u Q I rx ry h;obtain⟨a,b,ys,rfl,rfl,ha,hb,q⟩:=h;cases rx;cases ry;obtain⟨its,r1,p1,_⟩:=I.tuple ha;obtain⟨its2,r2,p2,_⟩:=I.tuple hb;cases r1;obtain⟨⟨cls,dd,data,sl⟩,ho,hc,n,hd⟩:=id p1;obtain⟨⟨cls2,dd2,data2,sl2⟩,ho2,hc2,n2,hd2⟩:=id p2;simp only at hc hd hc2 hd2;subst hc hd hc2 hd2
 exact concat_meets ⟨_,ho,rfl⟩ ⟨_,ho2,rfl⟩ noFill_tuple_add seq_tuple_add mE lJ (kN _ _)
  (tuple_addW0 a b ([]:List BA).toArray its2.toArray n n2 dd dd2 sl sl2<|by simp) ⟨ho,ho2,⟨.ref b,H,I,rfl,q⟩⟩
theorem aHU{d1 d2:List D}(ha:PEd X sd a (.val<|.tup d1))(hb:PEd X sd b (.val<|.tup d2))(hl:d1.length+d2.length<=10000):PEd X sd (.BinOp a .Add b pos) (.val (.tup<|d1++d2)):=
 rP (op_catT0.or aIP) ha hb trivial λσ F H v u Q S q1 q2 k=>by
  simp only[ResOk,Rep] at q1 q2;obtain⟨p,xs,e1,hp,rl⟩:=q1;obtain⟨q,ys,e2,hq,rl2⟩:=q2;cases d1 with
  |nil=>simp only[RepL] at rl;subst rl;refine .inl ⟨p,q,ys,e1,e2,.of<|S.sub _ _ hp,.of<|S.sub _ _ hq,k _ F H S (Same.refl _) ?_⟩;simp only[ResOk,Rep,vK];exact⟨q,ys,rfl,hq,rl2⟩
  |cons z zs=>
   refine .inr ⟨p,q,xs,ys,e1,e2,.of<|S.sub _ _ hp,.of<|S.sub _ _ hq, ?_,by rw[rl.len,rl2.len];exact dW<|fQ hl,λhy=> ?_,λhy p2 hp2=> ?_⟩
   ·intro hx;subst hx;obtain⟨_,_,w,_⟩:=rl.uncons;cases w
   ·subst hy
    have:d2=[]:=by
     cases d2 with
     |nil=>rfl
     |cons w ws=>obtain⟨_,_,w,_⟩:=rl2.uncons;cases w
    subst this;refine k _ F H S (Same.refl _) ?_;simp only[ResOk,Rep,dC];exact⟨p,xs,rfl,hp,rl⟩
   ·obtain⟨S2,s2⟩:=S.lay (o:=.tup<|xs++ys) hp2 trivial;refine k _ _ _ S2 s2 ?_;simp only[ResOk,Rep];exact⟨p2,_,rfl,bR,(rl.app rl2).mono s2⟩
theorem wP{p:Pos}(hg:Gl X "tuple")(hm:X.mg "tuple"=none)(ha:PEd X sd e (.bor ds))(hst:AB [e] X.env=(false,eval e X.env)::AB [] X.env:=by rfl):PEd X sd (.Call (.Name "tuple" p) [e] [] pos) (.val<|.tup ds):=
 nJ (he:=hst) vS hg hm PyProof.Rows.boot_tuple (aB ha aN trivial hst) λσ F H vs Q S q k=>by
  cases q with
  |cons q1 q2=>cases q2;obtain⟨p,xs,rfl,hp,rl,_⟩:=q1;refine⟨p,xs,rfl,.inl ⟨.of hp,λl hl=> ?_⟩⟩;obtain⟨S2,s2⟩:=S.lay (o:=.tup xs) hl trivial;refine k _ _ _ S2 s2 ?_;simp only[ResOk,Rep];exact⟨l,xs,rfl,bR,rl.mono s2⟩
noncomputable def cutD(ds:List D)(lo hi:Option Int):List D:=(ds.drop<|HT.sIx ds.length 0 lo).take<|HT.sIx ds.length ds.length hi-HT.sIx ds.length 0 lo
theorem RepL.cut{xs:List V}(r:RepL K H ds xs)(lo hi:Option Int):RepL K H (cutD ds lo hi) (aHy xs lo hi):=by unfold cutD aHy;rw[r.len];exact(r.drop _).take _
def POd(X:Cx)(sd:List Slot)(e:Option Expr)(o:Option Int):Prop:=match e,o with
 |none,none=>True
 |some e,some i=>PEd X sd e (.val<|.int i)
 |_,_=>False
theorem mD{eo:Option Expr}{o:Option Int}(h:POd X sd eo o):∃t:TO,PO X eo t/\∀ (σ:St) (F H:Hp),StF X.K X.B₀ F H σ sd->∀Q:Option Int->Hp->Prop,(∀F' H',StF X.K X.B₀ F' H' σ sd->Same F F'->Q o H')->t σ H Q:=by
 cases eo with
 |none=>
  cases o with
  |none=>exact⟨_,aIi,λσ F H S Q k=>k F H S<|Same.refl _⟩
  |some i=>exact h.elim
 |some e=>
  cases o with
  |none=>exact h.elim
  |some i=>have h:PEd X sd e (.val<|.int i):=h;refine⟨_,aHR dH,λσ F H S Q k=>(h σ F H S).imp λv H1 ⟨F1,S1,s1,q1⟩=> ?_⟩;simp only[ResOk,Rep] at q1;exact⟨i,q1,k F1 H1 S1 s1⟩
theorem aCf{lo hi:Option Expr}{ol oh:Option Int}{p2:Pos}(ha:PEd X sd a (.bor ds))(hl:POd X sd lo ol)(hh:POd X sd hi oh):PEd X sd (.Subscript a (.Slice lo hi none p2) pos) (.own<|cutD ds ol oh):=.mk λσ F H S=>by obtain⟨tl,pl,kl⟩:=mD hl;obtain⟨th,ph,kh⟩:=mD hh;refine(aAM aIR dH pl ph).to<|(ha σ F H S).imp λv H1 ⟨F1,S1,s1,q1⟩=>kl σ F1 H1 S1 _ λF2 H2 S2 s2=>kh σ F2 H2 S2 _ λF3 H3 S3 s3=> ?_;obtain⟨l,xs,rfl,hl',rl,_⟩:=ResOk.keep (r:=.bor ds) trivial q1 S3<|s2.trans s3;refine⟨l,xs,rfl,.of hl',λp hp=> ?_⟩;obtain⟨S4,fp,no⟩:=S3.layO (xs:=aHy xs ol oh) hp;exact⟨F3,S4,(s1.trans s2).trans s3,p,_,rfl,fp,bR,rl.cut ol oh,no⟩
theorem iM{i:Int}(ha:PEd X sd a (.val<|.int i)):PEd X sd (.UnaryOp .USub a pos) (.val<|.int (-i)):=.mk λσ F H S=>
 (aNm aKL dH).to ((ha σ F H S).imp fun v H1 ⟨F1,S1,s1,q1⟩=>by
  simp only[ResOk,Rep] at q1
  exact⟨i,q1,F1,S1,s1,by simp only[ResOk,Rep]⟩)
theorem pW{body:List BG}{P:Hp->Hp->Prop}(Sd:Nat->List Slot->Prop)(hi:PId X sd P tg iter ds)(h0:∃sd0,Le sd sd0/\Sd 0 sd0)
  (hb:∀k d sdk,ds[k]? =some d->Sd k sdk->∃sdt,PGd X sdk tg d sdt/\PSd X sdt body {E with nx:=λsd'=>∃sd2,Le sd' sd2/\Sd (k+1) sd2,ct:=λsd'=>∃sd2,Le sd' sd2/\Sd (k+1) sd2,bk:=E.nx}) (hE:∀sdn,Sd ds.length sdn->E.nx sdn) (hP:∀k sdk σ F H,Sd k sdk->StF X.K X.B₀ F H σ sdk->P F H:=by intros;trivial)
  (hc:X.calm=true:=by rfl) (hp:PassesOwn (AF X.prog X.w) X.A X.env X.xe:=by exact PassesOwn.never) (hs:∀x,Ae iter X.env x=pure x:=by intro _;rfl):PSd1 X sd (.For tg iter body [] pos) E:=.mk λσ F H S=>
 (aGO hp hc aOh aMZ sC hs).to (by
  intro pins s I;refine thn (hi σ F H S pins s I) λv s1 h1=>thn h1 λitv s2 h2=> ?_
  obtain⟨it,fp,tn,J,H2,e,I2,T,st2,f2,F1,S1,s1',itd⟩:=h2;refine⟨it,fp,tn,J,H2,e,I2,T,st2,f2, ?_⟩;obtain⟨sd0,le0,q0⟩:=h0;refine⟨λi m σ' H'=>m=ds.length-i/\i<=ds.length/\∃sdi F',StF X.K X.B₀ F' H' σ' sdi/\Same F1 F'/\Sd i sdi,⟨ds.length,by simp,bU _,sd0,F1,S1.le le0,Same.refl _,q0⟩, ?_⟩;rintro i m σ' H' ⟨rfl,hil,sdi,F',S',s',qi⟩;obtain⟨g1,g2,g3⟩:=itd F' H' s' S'.sub S'.smp (hP _ _ _ _ _ qi S') i
  by_cases hlt:i<ds.length
  ·refine .inr ⟨g1 hlt,λσ2 H2=>∃sd2 F2,StF X.K X.B₀ F2 H2 σ2 sd2/\Same F1 F2/\Sd (i+1) sd2,λσ2 H2 ⟨sd2,F2,S2,s2,q2⟩=>⟨ds.length-(i+1),by omega,rfl,hlt,sd2,F2,S2,s2,q2⟩,λx H2 y=> ?_⟩;have hd:ds[i]? =some ds[i]:=by simp[hlt]
   obtain⟨F2,s2,rp,up⟩:=g3 x H2 ds[i] hd y;obtain⟨sdt,hg,hbb⟩:=hb i _ sdi hd qi;refine(hg σ' F2 H2 x (up _ _ _ S') rp).imp λσ3 H3 ⟨F3,S3,s3⟩=> ?_
   have base:Same F1 F3:=(s'.trans s2).trans s3;refine(hbb σ3 F3 H3 S3).imp ?_ ?_ ?_ ?_
   ·rintro σ4 H4 ⟨sd4,F4,S4,s4,sd5,le,q5⟩;exact⟨sd5,F4,S4.le le,base.trans s4,q5⟩
   ·exact λv H4 q=>q
   ·rintro σ4 H4 ⟨sd4,F4,S4,s4,q⟩;exact⟨sd4,F4,S4,(s1'.trans base).trans s4,q⟩
   ·rintro σ4 H4 ⟨sd4,F4,S4,s4,sd5,le,q5⟩;exact⟨sd5,F4,S4.le le,base.trans s4,q5⟩
  ·have e:i=ds.length:=by omega
   subst e
   exact .inl ⟨g2 (aO _),sdi,F',S',s1'.trans s',hE sdi qi⟩)
noncomputable def yL(m:Nat):Nat->List (List Int)
 |0=>[[]]
 |k+1=>(yL m k).flatMap λs=>(cI m).map λ(w:Nat)=>s++[(w:Int)]
noncomputable def aGs(s:List Int):D:=.tup<|s.map D.int
noncomputable def aOv(m:Int)(ws:List Int):Int:=ws.foldl (λn w=>n*m+w) 0
theorem sG:∀p∈sizes14,1<=p.1/\p.1<=6/\1<=p.2/\p.2<=6/\p.1*p.2<=6:=by decide+kernel
structure FilOk(b k:Nat):Prop where
 len:(yL (2^b) k).length=2^(b*k)
 at_:∀i,i<2^(b*k)->((yL (2^b) k).getD i []).length=k/\(∀w∈(yL (2^b) k).getD i [],0<=w/\w<2^b)/\aOv (2^b) ((yL (2^b) k).getD i [])=i/\(i=0\/HT.lexLt ((yL (2^b) k).getD (i-1) []) ((yL (2^b) k).getD i [])=true)
theorem mW{i j:Int}(h1: -(2^64)<j)(h2:j<2^64):IntMulOk i j:=.of_right<|intBits_le_64 h1 h2
theorem aCY:∀n:Nat,n<=6->([.int 1,.int 2,.int 4,.int 8,.int 16,.int 32,.int 64]:List D)[n]? =some (.int<|((2^n:Nat):Int)):=by
 intro n hn
 match n,hn with
 |0,_=>rfl
 |1,_=>rfl
 |2,_=>rfl
 |3,_=>rfl
 |4,_=>rfl
 |5,_=>rfl
 |6,_=>rfl
theorem aIJ{p:Pos}{i j:Int}(hg:Gl X "max")(hm:X.mg "max"=none)(ha:PEd X sd a (.val<|.int i))(hb:PEd X sd b (.val<|.int j))(hc:X.calm=true:=by rfl)(hst:AB [a,b] X.env=(false,eval a X.env)::AB [b] X.env:=by rfl)(hst2:AB [b] X.env=(false,eval b X.env)::AB [] X.env:=by rfl)(hpl:(AX pos<|AB [b] X.env).any (·.1)=false:=by rfl):PEd X sd (.Call (.Name "max" p) [a,b] [] pos) (.val<|.int (if j>i then j else i)):=
 jN (he:=hst) (hpl:=hpl) (aEj hc) hg hm boot_max (aB ha (aB hb aN trivial hst2) trivial hst) λσ F H vs Q S q k=>by
  cases q with
  |cons q1 q2=>
   cases q2 with
   |cons q2 q3=>cases q3;simp only[ResOk,Rep] at q1 q2;subst q1 q2;exact⟨i,j,rfl,k _ F H S (Same.refl _)<|by simp only[ResOk,Rep]⟩
theorem aJi{p:Pos}{i j:Int}(hg:Gl X "min")(hm:X.mg "min"=none)(ha:PEd X sd a (.val<|.int i))(hb:PEd X sd b (.val<|.int j))(hc:X.calm=true:=by rfl)(hst:AB [a,b] X.env=(false,eval a X.env)::AB [b] X.env:=by rfl)(hst2:AB [b] X.env=(false,eval b X.env)::AB [] X.env:=by rfl)(hpl:(AX pos<|AB [b] X.env).any (·.1)=false:=by rfl):PEd X sd (.Call (.Name "min" p) [a,b] [] pos) (.val<|.int (if j<i then j else i)):=
 jN (he:=hst) (hpl:=hpl) (aDK hc) hg hm boot_min (aB ha (aB hb aN trivial hst2) trivial hst) λσ F H vs Q S q k=>by
  cases q with
  |cons q1 q2=>
   cases q2 with
   |cons q2 q3=>cases q3;simp only[ResOk,Rep] at q1 q2;subst q1 q2;exact⟨i,j,rfl,k _ F H S (Same.refl _)<|by simp only[ResOk,Rep]⟩
theorem xA(i:Nat){x:Str}{p tp:Pos}{ix:Expr}{l:BC}{n:Nat}(hs:sd[i]? =some (.own l ds))(hx:PE X (.Name x p) (mU i))(h:PEd X sd e (.val d))(hi:PEd X sd ix (.val<|.int (n:Int)))(hn:n<ds.length)(hE:E.nx (sd.set i (.own l<|ds.set n d)))
  (ha:∀v,assign (.Subscript (.Name x p) ix tp) X.env v=(do
   let ov <-holding [v] (eval (.Name x p) X.env)
   let iv <-holding [v,ov] (eval ix X.env)
   standAt tp
   holding [v,ov,iv] (setItem ov iv v)
   release [v,ov,iv] []):=by intro _;rfl)
  (hs1:swapsWithSole [.Subscript (.Name x p) ix tp] e pos.line X.env=pure false:=by rfl) (hw:swappedStores [.Subscript (.Name x p) ix tp] e X.env=pure none:=by rfl)
  (h1:(AV [.Subscript (.Name x p) ix tp] X.env).map (·.2)=[assign (.Subscript (.Name x p) ix tp) X.env]:=by rfl):PSd1 X sd (.Assign [.Subscript (.Name x p) ix tp] e pos) E:=.mk λσ F H S=>
 (aHd dH (aLh hx dH aFl ha) hs1 hw h1).to ((h σ F H S).imp fun v H1 ⟨F1,S1,s1,q1⟩=>by
  obtain⟨o,g1,g2,n1,xs,q,rl⟩:=S1.slots.get hs;refine⟨.ref l,by rw[g1,g2],(hi σ F1 H1 S1).imp λy H2 ⟨F2,S2,s2,q2⟩=> ?_⟩;simp only[ResOk,Rep] at q2;subst q2;obtain⟨o',g1',g2',n',xs',q',rl'⟩:=S2.slots.get hs;have lx:n<xs'.length:=by rw[rl'.len];exact hn
  refine⟨l,xs',(n:Int),n,rfl,rfl,q', ?_,_,F2,S2.wr hs<|rl'.set (Rep.mono s2 q1) n,s1.trans s2,hE⟩;unfold ixN
  rw[if_pos (by omega),if_pos (by omega),cD])
theorem aFD(i:Nat){elt:Expr}{ifs:List Expr}{scope:Scope}{N M:List Str}{cap:List (Option Nat)}{sc:Scope}{Tb:D->List Slot}{y:Str}{py spos:Pos}(p:D->Bool)(f:D->D)(ho:cH sd=[])
  (hN:X.N.Nodup) (hi:X.N[i]? =some y) (hy:X.env.scope.names.lookup y=some .local)
  (hsw:Ad (.ListComp elt [⟨tg,iter,ifs,0⟩] scope pos) (some<|.Name y py) spos.line X.env=pure true)
  (hit:PId X sd PT0 tg iter ds) (hl:ds.length<=10000)
  (hsc:X.env.scope=sc) (hcn:lC scope sc=true) (hM:X.N=M) (hcap:jM N M scope sc cap=true) (hk:scope.kind=.function)
  (hg:∀cl C fp s H d,d∈ds->PGd (cxB X N scope cl C fp s H) (jT cap sd) tg d (Tb d))
  (hle:∀d,d∈ds->Le (Tb d) (jT cap sd))
  (ht:∀cl C fp s H d,d∈ds->(ifs=[]/\p d=true)\/∃c,ifs=[c]/\PTd (cxB X N scope cl C fp s H) (Tb d) c (p d))
  (he:∀cl C fp s H d,d∈ds->p d=true->PEd (cxB X N scope cl C fp s H) (Tb d) elt (.val<|f d))
  (hE:∀l,E.nx<|sd.set i (.own l<|(ds.filter p).map f))
  (hc:X.calm=true:=by rfl) (hs:∀x,Ae iter X.env x=pure x:=by intro _;rfl):
  PSd1 X sd (.Assign [.Name y py] (.ListComp elt [⟨tg,iter,ifs,0⟩] scope pos) spos) E:=.mk λσ F H S=>by
 intro pins s I
 have nm:∀y∈scope.names,(y.2=NameKind.free->sc.names.lookup y.1=some NameKind.cell)/\(y.2=NameKind.local->scope.names.lookup y.1=some NameKind.local):=λy hy=>by have q:=bJ.mp hcn y hy;simp only[aR,jI,gB,beq_eq_false_iff_ne,ne_eq,beq_iff_eq] at q;exact⟨λe=>q.1.1.resolve_left λz=>z e,λe=>q.2.resolve_left λz=>z e⟩
 have fre:∀y∈scope.names,y.2=.free->∃c,X.env.cells.lookup y.1=some c:=λy hy e=>I.ok.has y.1 (.inl<|by show X.env.scope.names.lookup y.1=_;rw[hsc];exact(nm y hy).1 e)
 rw[exec_Assign_Name_used _ _ _ _ hsw];refine AA (As<|AA ?_);show AE _ X.A (do let _ <-comprehension (.ListComp elt [⟨tg,iter,ifs,0⟩] scope pos) scope X.env _ (newList []) false (eval iter X.env) (some<|assign (.Name y py) X.env)) _ _ s;refine AA<|AY (wpAny_comprehension_free (use:=some<|assign (.Name y py) X.env) (Q:=λ_ s'=>SP X pins (lft X F E) .next s') rfl hs (uE fre) hk (λy hy=>(nm y hy).2) ?_) (λ_ s' hq=>AC<|AC hq) λ_ _ e=>e;refine thn (hit σ F H S pins s I) λv s1 h1=>thn h1 λitv s2 h2=> ?_
 obtain⟨it,fp,tn,J,H2,e,I2,T,st2,f2,F1,S1,s1',itd⟩:=h2;subst e;have S1b:StF X.K H2 H2 H2 (uF cap σ) (jT cap sd):=⟨Same.refl _,Same.refl _,S1.smp,xX (H':=H2) S1.slots S1.sub cap,by rw[oU];exact fA⟩
 refine aAV (N:=N) (cap:=cap) (g:=λv σ2 H3 Q=>∀cl C,wG (cxB X N scope cl C fp s2 H2) tg v σ2 H3 Q) (tt:=λσ2 H3 Q=>∀cl C,aMk (cxB X N scope cl C fp s2 H2) ifs σ2 H3 Q) (te:=λσ2 H3 Q=>∀cl C,wE (cxB X N scope cl C fp s2 H2) elt σ2 H3 Q)
  hc hsc hcn (by rw[hM];exact hcap) hk I2 T st2 f2 (λcl C pi s3 σ3 H3 v u Q I3 ru q=>q cl C pi s3 u I3 ru) (λcl C pi s3 σ3 H3 Q I3 q=>q cl C pi s3 I3) (λcl C pi s3 σ3 H3 Q I3 q=>q cl C pi s3 I3)
  (λi m ys σb H3=>m=ds.length-i/\i<=ds.length/\∃Fb,StF X.K H2 Fb H3 σb (jT cap sd)/\RepL X.K Fb (((ds.take i).filter p).map f) ys) ds.length
  ⟨by simp,bU _,H2,S1b,by simpa using RepL.nil⟩ _ ?_
 rintro i' m ys σb H3 ⟨rfl,hil,Fb,Sb,rl⟩;have sF1:Same F1 Fb:=λb o g=>Sb.base _ _<|S1.sub _ _ g
 obtain⟨g1,g2,g3⟩:=itd Fb H3 sF1 Sb.sub Sb.smp trivial i'
 by_cases hlt:i'<ds.length
 ·have hd:ds[i']? =some ds[i']:=by simp[hlt]
  have hm:ds[i']∈ds:=dE hlt
  have ylen:ys.length<=i':=by rw[rl.len,aD];exact aQ (aBC _ _) (by simp;omega)
  refine .inr ⟨g1 hlt,fQ<|by omega,λys' σ' H'=>∃Fb',StF X.K H2 Fb' H' σ' (jT cap sd)/\RepL X.K Fb' (((ds.take<|i'+1).filter p).map f) ys',λys' σ' H' ⟨Fb',Sb',rl'⟩=>⟨ds.length-(i'+1),by omega,rfl,hlt,Fb',Sb',rl'⟩,λx H4 y cl C=> ?_⟩;obtain⟨F4,s4,rp,up⟩:=g3 x H4 ds[i'] hd y;refine(hg cl C fp s2 H2 _ hm σb F4 H4 x (up _ _ _ Sb) rp).imp λσ5 H5 ⟨F5,S5,s5⟩ cl2 C2=> ?_
  have rl5:=rl.mono<|s4.trans s5
  have fin:∀ (b:Bool) (H6:Hp) (F6:Hp),b=p ds[i']->StF X.K H2 F6 H6 σ5 (Tb ds[i'])->Same F5 F6->if b=true then(∀cl C,wE (cxB X N scope cl C fp s2 H2) elt σ5 H6 λv H5=>∃Fb',StF X.K H2 Fb' H5 σ5 (jT cap sd)/\RepL X.K Fb' (((ds.take<|i'+1).filter p).map f) (ys++[v])) else ∃Fb',StF X.K H2 Fb' H6 σ5 (jT cap sd)/\RepL X.K Fb' (((ds.take<|i'+1).filter p).map f) ys:=λb H6 F6 eb S6 s6=>by
   rw[kX p hd,<-eb];cases b with
   |false=>exact aJE ⟨F6,S6.le<|hle _ hm,by simpa using rl5.mono s6⟩
   |true=>
    refine aJy λcl3 C3=>(he cl3 C3 fp s2 H2 _ hm eb.symm σ5 F6 H6 S6).imp λv H7 ⟨F7,S7,s7,q7⟩=>⟨F7,S7.le<|hle _ hm, ?_⟩
    simp only[if_true,aT,bB,gJ];exact((rl5.mono s6).mono s7).app<|.one q7
  rcases ht cl2 C2 fp s2 H2 _ hm with⟨e1,e2⟩|⟨c,e1,q⟩
  ·subst e1;exact aAq (fin true H5 F5 e2.symm S5<|Same.refl _)
  ·subst e1;exact aAE<|(q σ5 F5 H5 S5).imp λb H6 ⟨eb,F6,S6,s6⟩=>fin b H6 F6 eb S6 s6
 ·have e:i'=ds.length:=by omega
  subst e;refine .inl ⟨g2<|aO _,λD C s' hD hC hDC h0 hL hcc hpp hst ⟨m',ns'⟩ J'=> ?_⟩;have fbD:Fb D=none:=Sb.sub.free hD
  have S9:StF X.K X.B₀ Fb (upd H3 D<|.lst ys) σ sd:=by
   refine⟨λb o g=>sF1 _ _<|S1.base _ _ g,λb o g=> ?_,λb o g=> ?_,S1.slots.mono sF1 λl hl=> ?_,S1.nd⟩
   ·rw[bK<|cF g fbD];exact Sb.sub _ _ g
   ·by_cases hb:b=D
    ·subst hb;rw[bR] at g;cases g;trivial
    ·rw[bK hb] at g;exact Sb.smp _ _ g
   ·rw[ho] at hl;cases hl
  have S10:=S9.setO i fbD bR rl (by rw[ho];simp);obtain⟨oC,esC,epC,hoC,rC⟩:=id ns';have nC:(upd H3 D<|.lst ys) C=none:=by rw[bK<|Ne.symm hDC];exact hC
  have Jp:Inv X (pins++[(C,oC)]) σ (upd H3 D<|.lst ys) s':=J'.pins_of λq hq=>(aW.mp hq).elim (λz=>J'.pin q<|aJ _ z) λz=>by
   have z:q=(C,oC):=by simpa using z
   subst z
   exact ⟨hoC,nC,hL,fun y=>hst (by
    rcases J'.ok.stk with e|⟨e,_⟩
    ·rw[e];exact y
    ·rw[e];unfold frs;rw[cT];cases X.env.frame with
     |none=>exact y
     |some fr=>exact aH _ y),λv z=>by rw[rC.1] at z;cases z⟩
  show AE _ X.A (assign (.Name y py) X.env<|.ref D) _ _ _;refine wpAny_assign_Name (pO (v:=.ref D) (u:=.ref D) Jp hN hi (.inl hy) rfl (λs3 J3=> ?_)<|.inr hy);have pC:=J3.pin (C,oC) (aJ _<|aJ _ aM);refine⟨m',⟨oC,esC,epC,pC.1,rC⟩,λh' sb=> ?_⟩;have J4:Inv X pins _ (upd H3 D<|.lst ys) s3:=J3.pins_of λq hq=>J3.pin q (aJ _<|bH _ hq)
  have J5:Inv X pins _ (upd H3 D<|.lst ys) {s3 with heap:=h',toks:=s3.toks}:=J4.turned (it:=C) (λb o hb g=>sb.extBut b o hb g) nC hL (.inr h0) hcc hpp;refine⟨_,_,J5,_,Fb,S10,s1'.trans sF1, ?_⟩;have hE':=hE D;simpa using hE'
def stepNames:List Str:=["and","or","xor","add","take","copy","put","not","up","down"]
noncomputable def nm(k:Nat):Str:=stepNames.getD k "down"
noncomputable def lD(k:Nat)(i j n:Int):D:=if k<6 then .tup [.str<|nm k,.int i,.int j] else if k=6 then .tup [.str<|nm k,.int i,.int n] else .tup [.str<|nm k,.int i]
noncomputable def aNI(k:Nat)(m a:Int):Int:=match k with
 |7=>m-1-a
 |8=>a*2%m
 |_=>a / 2
noncomputable def anoW(k:Nat)(m a c:Int):Int:=match k with
 |0=>Builtin.bitAnd a c
 |1=>Builtin.bitOr a c
 |2=>Builtin.bitXor a c
 |3=>(a+c)%m
 |4=>(a-c)%m
 |_=>c
noncomputable def newW(k:Nat)(m a c n:Int):Int:=if k=6 then n else if 7<=k then aNI k m a else anoW k m a c
theorem RepL.strs{K:aA}{H:Hp}:∀ {ss:List Str}{xs:List V},RepL K H (ss.map D.str) xs->xs=ss.map V.str
 |[],xs,r=>by simpa only[gJ,RepL] using r
 |n::ns,xs,r=>by rw[bB] at r;obtain⟨y,ys,rfl,a,rl⟩:=r.uncons;simp only[Rep] at a;rw[a,RepL.strs rl];rfl
theorem aAA{h:BE}{a:BC}{its:Array BA}(p:PlainL h a its):h.IsList a its:=by obtain⟨o,n,h1,h2,h3,h4⟩:=p;exact⟨o,h1,h2,n,h4⟩
theorem aIQ(hu:X.A.units+1<AN):OpR X (AK .NotEq) (λx y H Q=>∃p q xs,x=.ref p/\y=.ref q/\SqL X.K H p xs/\SqL X.K H q []/\Q (.bl<|!xs.isEmpty) H):=by
 intro pins s σ H x y v u Q I rx ry h;obtain⟨p,q,xs,rfl,rfl,h1,h2,k⟩:=h;obtain⟨its,rv,ht,_⟩:=I.list h1;obtain⟨jts,rv2,ht2,_⟩:=I.list h2;have ht:=aAA ht;have ht2:=aAA ht2;cases rx;cases ry;have l1:its.toArray.size=xs.length:=by rw[aI,<-rv.length]
 have l2:jts.toArray.size=0:=by rw[aI,<-rv2.length];rfl
 have kk:EP X pins σ Q (.bool<|!xs.isEmpty) s:=⟨.bl<|!xs.isEmpty,H,I,rfl,k⟩
 by_cases hl:xs=[]
 ·subst hl;refine SeqAt.RcNeAt.lists (e:=λ_=>true) ht ht2 (l1.trans l2.symm) (by omega) (λj h1 h2=>absurd h2<|by rw[l2];omega) _ _ _ _ ?_;rw[l1];exact kk
 ·have:(!xs.isEmpty)=true:=by cases xs with|nil=>exact absurd rfl hl|cons _ _=>rfl
  rw[this] at kk;exact SeqAt.RcNeAt.lists_lengths ht ht2 (by rw[l1,l2];cases xs with|nil=>exact absurd rfl hl|cons _ _=>simp) (by omega) _ _ _ _ kk
theorem aFW{ns:List Int}(hu:X.A.units+1<AN)(ha:PEd X sd a (.val<|.scr ns))(hb:PEd X sd b (.val<|.lst [])):PTd X sd (.Compare a [.NotEq] [b] pos) (!ns.isEmpty):=
 fY (aIQ hu) ha hb trivial (eK _) λσ F H x u Q S q1 q2 k=>by
  have q1:Rep X.K F (.scr ns) x:=q1;have q1:=Rep.mono S.sub q1;simp only[ResOk,Rep] at q1 q2;obtain⟨p,rfl,hp⟩:=q1;obtain⟨q,xs,rfl,hq,rl⟩:=q2;have e:xs=[]:=by simpa only[RepL] using rl
  subst e;refine⟨p,q,ns.map V.int,rfl,rfl,hp,.of<|S.sub _ _ hq, ?_⟩
  ·have:(ns.map V.int).isEmpty=ns.isEmpty:=by cases ns<;>rfl
   rw[this];exact k F H S<|Same.refl _
theorem rQ{op op':CmpOp}{g g':Int->Int->Bool}{i j l:Int}(ho:OpR X (AK op) (rI0 λi j=>.bl<|g i j))(ho':OpR X (AK op') (rI0 λi j=>.bl<|g' i j))(ha:PEd X sd a (.val<|.int i))(hb:PEd X sd b (.val<|.int j))(hc:PEd X sd c (.val<|.int l))(hm:lastMarks [op,op'] [b,c]=false:=by with_unfolding_all rfl):PEd X sd (.Compare a [op,op'] [b,c] pos) (.val (.bl<|g i j&&g' j l)):=.mk λσ F H S=>
 (aFR ho ho' dH dH dH hm).to ((ha σ F H S).imp fun v H1 ⟨F1,S1,s1,q1⟩=>(hb σ F1 H1 S1).imp fun u H2 ⟨F2,S2,s2,q2⟩=>by
  simp only[ResOk,Rep] at q1 q2;refine⟨i,j,q1,q2,g i j,rfl, ?_⟩;cases hk:g i j with
  |true=>
   rw[if_pos rfl];refine(hc σ F2 H2 S2).imp λw H3 ⟨F3,S3,s3,q3⟩=> ?_
   simp only[ResOk,Rep] at q3;exact⟨j,l,q2,q3,F3,S3,s1.trans<|s2.trans s3,by simp only[ResOk,Rep,rD]⟩
  |false=>
   rw[if_neg<|by decide]
   exact⟨F2,S2,s1.trans s2,by simp only[ResOk,Rep,oJ]⟩)
noncomputable def inD(ss:List Str)(d:D):Bool:=ss.any λz=>deq (.str z) d
noncomputable def inU(d:D)(u:BA):Bool:=match u with
 |.str z _=>deq (.str z) d
 |_=>false
theorem aDo{d:D}:∀ {ss:List Str}{us:List BA},Vals (ss.map V.str) us->us.any (inU d)=inD ss d
 |[],_,.nil=>rfl
 |z::ss,u::us,.cons r t=>by obtain⟨k,rfl⟩:=r;unfold inD;rw[qZ,qZ,aDo t];rfl
theorem aAo:∀ {ss:List Str}{us:List BA}{u:BA},Vals (ss.map V.str) us->u∈us->∃z t,u=.str z t
 |[],_,_,.nil,h=>by cases h
 |z::ss,v::us,u,.cons r t,h=>by
  rcases aG.mp h with rfl|h
  ·obtain⟨k,rfl⟩:=r;exact⟨_,_,rfl⟩
  ·exact aAo t h
theorem aGy{ss:List Str}(d:D)(p1:pl d=true)(hu:X.A.units+1<AN):OpR X (AK .In) (λx y H Q=>∃p,y=.ref p/\SqT X.K H p (ss.map V.str)/\Rep X.K H d x/\Q (.bl<|inD ss d) H):=by
 intro pins s σ H x y v u Q I rx ry h;obtain⟨p,rfl,hq,hd,k⟩:=h;cases ry;obtain⟨its,r,ht,hz⟩:=I.tuple hq;refine SeqAt.in_tupleAt (inU d) ht (λw hw=> ?_) ⟨.bl _,H,I,rfl, ?_⟩
 ·have hw':w∈its:=by simpa using hw
  obtain⟨z,t,rfl⟩:=aAo r hw';exact rZ I.hok (.str z) (v1:=.str z) rfl p1 (by simp only[Rep]) hd ⟨t,rfl⟩ rx (by show X.A.units+1+0<AN;omega)
 ·rw[show its.toArray.any (inU d)=its.any (inU d) by simp,aDo r];exact k
theorem aFi{g:Str}{ad:BC}{ss:List Str}{p:Pos}(hg:Gl X g)(hm:X.mg g=some (.ref ad))(hq:∀H,SqT X.K H ad<|ss.map V.str)(hu:X.A.units+1<AN)(ha:PEd X sd a (.val d))(p1:pl d=true)
  (hk:AQ .In (.Name g p)=false:=by with_unfolding_all rfl) (hdb:(g==("__debug__":Str))=false:=by decide):PTd X sd (.Compare a [.In] [.Name g p] pos) (inD ss d):=.mk λσ F H S=>
 (aCU (aGy d p1 hu) dH (pG (v:=.ref ad) hg hm rfl hdb) hk).to ((ha σ F H S).imp λx H1 ⟨F1,S1,s1,q1⟩=>⟨ad,rfl,hq H1,Rep.mono S1.sub q1,_,rfl,rfl,F1,S1,s1⟩)
theorem aJr{g:Str}{ad:BC}{ss:List Str}{p:Pos}(hg:Gl X g)(hm:X.mg g=some (.ref ad))(hq:∀H,SqT X.K H ad<|ss.map V.str)(hu:X.A.units+1<AN)(ha:PEd X sd a (.val d))(p1:pl d=true)
  (hk:AQ .In (.Name g p)=false:=by with_unfolding_all rfl) (hdb:(g==("__debug__":Str))=false:=by decide):PEd X sd (.Compare a [.In] [.Name g p] pos) (.val (.bl<|inD ss d)):=.mk λσ F H S=>
 (aCu (aGy d p1 hu) dH (pG (v:=.ref ad) hg hm rfl hdb) hk).to ((ha σ F H S).imp λx H1 ⟨F1,S1,s1,q1⟩=>⟨ad,rfl,hq H1,Rep.mono S1.sub q1,F1,S1,s1,by simp only[ResOk,Rep]⟩)
theorem aIE(d:D)(hs:(∃es,d=.lst es)\/∃es,d=.tup es)(hu:X.A.units+1<AN):OpR X (AK .Eq) (λx y H Q=>∃z,y=.str z/\Rep X.K H d x/\Q (.bl false) H):=by
 intro pins s σ H x y v u Q I rx ry h;obtain⟨z,rfl,hd,k⟩:=h;obtain⟨t,rfl⟩:=ry;have kk:EP X pins σ Q (.bool false) s:=⟨.bl false,H,I,rfl,k⟩
 rcases hs with⟨es,rfl⟩|⟨es,rfl⟩
 ·obtain⟨a,xs,its,rfl,rfl,rl,rv,ht⟩:=iB I.hok hd rx;exact SeqAt.RcAt.list_str z t ht (by omega) _ _ _ _ kk
 ·obtain⟨a,xs,its,rfl,rfl,rl,rv,ht⟩:=iV I.hok hd rx;exact SeqAt.RcAt.tuple_str z t ht (by omega) _ _ _ _ kk
theorem aAw{z:Str}(hs:(∃es,d=.lst es)\/∃es,d=.tup es)(hu:X.A.units+1<AN)(ha:PEd X sd a (.val d))(hb:PEd X sd b (.val<|.str z)):PTd X sd (.Compare a [.Eq] [b] pos) false:=
 fY (aIE d hs hu) ha hb trivial (eK _) λσ F H x u Q S q1 q2 k=>by simp only[ResOk,Rep] at q2;exact⟨z,q2,Rep.mono S.sub q1,k F H S<|Same.refl _⟩
theorem aBU{i j:Int}(ha:PEd X sd a (.val<|.int i))(hb:PEd X sd b (.val<|.int j)):PEd X sd (.Compare a [.Eq] [b] pos) (.val<|.bl (decide<|i=j)):=
 sV aKo ha hb trivial (eK _) λσ F H v u Q S q1 q2 k=>by
  simp only[ResOk,Rep] at q1 q2;subst q1;subst q2;refine⟨rfl, ?_⟩;have e:decide (V.int i=V.int j)=decide (i=j):=by rw[qI,oA]
  rw[e];exact k F H S<|Same.refl _
variable {o:Expr}
theorem PEd.ic{i j:Int}(h:PEd X sd e (.val<|.int i))(q:i=j):PEd X sd e (.val<|.int j):=q▸h
theorem PWd.cast{k k':Bool}(h:PWd X sd e k)(q:k=k'):PWd X sd e k':=q▸h
mutual
noncomputable def noL:D->Bool
 |.tup ds=>aJA ds
 |.lst _=>false
 |.scr _=>false
 |.dic=>false
 |.dki _ _=>false
 |.any _=>false
 |_=>true
noncomputable def aJA:List D->Bool
 |[]=>true
 |d::ds=>noL d&&aJA ds
end
noncomputable def del(F:Hp)(l:BC):Hp:=λb=>if b=l then none else F b
theorem uJ{l b:BC}(h:b≠l):del F l b=F b:=by unfold del;rw[if_neg h]
theorem aAB{l:BC}:del F l l=none:=by unfold del;rw[if_pos rfl]
mutual
theorem Rep.del{K:aA}{F:Hp}{l:BC}{xs:List V}(hl:F l=some (.lst xs)):∀ {d:D}{v:V},noL d=true->Rep K F d v->Rep K (del F l) d v
 |.non,_,_,r=>by simpa only[Rep] using r
 |.bl _,_,_,r=>by simpa only[Rep] using r
 |.int _,_,_,r=>by simpa only[Rep] using r
 |.str _,_,_,r=>by simpa only[Rep] using r
 |.tup ds,v,h,r=>by
  simp only[Rep] at r ⊢;obtain⟨a,ys,e,q,rl⟩:=r
  have ne:a≠l:=λz=>by rw[z,hl] at q;cases q
  exact⟨a,ys,e,by rw[uJ ne];exact q,RepL.del hl (by simpa only[noL] using h) rl⟩
 |.lst _,_,h,_=>by simp[noL] at h
 |.dic,_,h,_=>by simp[noL] at h
 |.dki _ _,_,h,_=>by simp[noL] at h
 |.any _,_,h,_=>by simp[noL] at h
 |.scr _,_,h,_=>by simp[noL] at h
theorem RepL.del{K:aA}{F:Hp}{l:BC}{xs:List V}(hl:F l=some (.lst xs)):∀ {ds:List D}{ys:List V},aJA ds=true->RepL K F ds ys->RepL K (del F l) ds ys
 |[],_,_,r=>by simpa only[RepL] using r
 |d::ds,ys,h,r=>by simp only[aJA,aR] at h;obtain⟨y,zs,rfl,a,rl⟩:=r.uncons;exact .cons (Rep.del hl h.1 a)<|RepL.del hl h.2 rl
end
theorem zY{K:aA}{F H:Hp}:∀ {sd:List Slot}{σ:St},σ.length=sd.length->(∀ (k:Nat) (z:Slot),sd[k]? =some z->∃o,σ[k]? =some o/\fO K F H z o)->SlotsOk K F H sd σ
 |[],[],_,_=>rfl
 |z::zs,o::r,hl,h=>by
  obtain⟨o',e,q⟩:=h 0 z rfl;have:o=o':=by simpa using e
  subst this
  exact ⟨o,r,rfl,q,zY (by simpa using hl) fun k z hz=>by
   obtain⟨o',e,q⟩:=h (k+1) z (by simpa using hz)
   exact⟨o',by simpa using e,q⟩⟩
 |[],_::_,hl,_=>by simp at hl
 |_::_,[],hl,_=>by simp at hl
noncomputable def okS:Slot->Bool
 |.own _ ds=>aJA ds
 |.od _ _ ds=>aJA ds
 |.ox _ _=>false
 |_=>true
def Oth(sd:List Slot)(i:Nat):Prop:=∀ (k:Nat) (z:Slot),k≠i->sd[k]? =some z->okS z=true
variable {i:Nat}{l:BC}{xs:List V}
theorem StF.lend(S:StF K H₀ F H σ sd)(hs:sd[i]? =some (.own l ds))(hx:H l=some (.lst xs)):StF K H₀ (upd F l<|.lst xs) H σ (sd.set i (.val<|.lst ds)):=by obtain⟨o,h1,h2,n,ys,q,rl⟩:=S.slots.get hs;rw[hx] at q;cases q;have S0:=S.le<|jF sd i;obtain⟨S1,s1⟩:=S0.freeze hx n<|rN S.nd hs;have S2:=S1.set (d:=.lst ds) (v:=.ref l) i (by simp only[Rep];exact⟨l,xs,rfl,bR,rl.mono s1⟩);rw[nW,qR<|by rw[h1,h2]] at S2;exact S2
theorem StF.back(S:StF K H₀ F H σ sd)(hs:sd[i]? =some (.own l ds))(hx:H l=some (.lst xs))(ho:Oth sd i)(S':StF K H₀ F' H' σ (sd.set i (.val<|.lst ds)))(s:Same (upd F l<|.lst xs) F'):StF K H₀ (del F' l) H' σ sd/\Same F (del F' l)/\F' l=some (.lst xs):=by
 obtain⟨o,h1,h2,n,ys,q,rl⟩:=S.slots.get hs;rw[hx] at q;cases q;have fl:F' l=some (.lst xs):=s _ _ bR
 have sF:Same F (del F' l):=λb u e=>by have ne:b≠l:=cF e n;rw[uJ ne];exact s _ _ (by rw[bK ne];exact e)
 refine⟨⟨λb u e=>sF _ _<|S.base _ _ e,λb u e=> ?_,S'.smp, ?_,S.nd⟩,sF,fl⟩
 ·by_cases h:b=l
  ·subst h;rw[aAB] at e;cases e
  ·rw[uJ h] at e;exact S'.sub _ _ e
 ·refine zY S.slots.len λk z hz=> ?_
  by_cases hk:k=i
  ·subst hk;rw[hs] at hz;cases hz;exact⟨o,h1,h2,aAB,xs,S'.sub _ _ fl,rl.mono sF⟩
  ·obtain⟨o1,g1,g2⟩:=S.slots.get hz;obtain⟨o2,g3,g4⟩:=S'.slots.get (i:=k) (z:=z) (by rw[iZ<|Ne.symm hk];exact hz);rw[g1] at g3;cases g3;refine⟨o1,g1, ?_⟩;cases z with
   |un=>trivial
   |val d=>obtain⟨v,e,r⟩:=g2;exact⟨v,e,r.mono sF⟩
   |gh d G=>obtain⟨v,e,r,g⟩:=g2;exact⟨v,e,r.mono sF,λF2 s2=>g F2<|sF.trans s2⟩
   |own l' ds'=>
    obtain⟨e,n',ys,q',rl'⟩:=g4
    have ne:l'≠l:=λe2=>by rw[e2,fl] at n';cases n'
    exact⟨e,by rw[uJ ne];exact n',ys,q',RepL.del fl (ho k _ hk hz) rl'⟩
   |od l' ks ds'=>
    obtain⟨e,n',ys,q',ln,rl'⟩:=g4
    have ne:l'≠l:=λe2=>by rw[e2,fl] at n';cases n'
    exact⟨e,by rw[uJ ne];exact n',ys,q',ln,RepL.del fl (ho k _ hk hz) rl'⟩
   |ox ls G=>exact absurd (ho k _ hk hz) (by simp[okS])
theorem PTd.lend(i:Nat){k:Bool}(hs:sd[i]? =some (.own l ds))(ho:Oth sd i)(h:PTd X (sd.set i (.val<|.lst ds)) e k):PTd X sd e k:=.mk λσ F H S=>by
 obtain⟨o,h1,h2,n,xs,q,rl⟩:=S.slots.get hs;refine(h σ _ H<|S.lend hs q).imp λv H' ⟨e,F',S',s'⟩=> ?_
 obtain⟨S2,s2,fl⟩:=S.back hs q ho S' s';exact⟨e,del F' l,S2,s2⟩
theorem PTd.cast{k k':Bool}(h:PTd X sd e k)(q:k=k'):PTd X sd e k':=q▸h
noncomputable def aNh:List Slot->Nat->Bool
 |[],_=>true
 |_::zs,0=>zs.all okS
 |z::zs,i+1=>okS z&&aNh zs i
theorem wB:∀ {sd:List Slot}{i:Nat},aNh sd i=true->Oth sd i
 |[],_,_,k,y,_,hz=>by simp at hz
 |z::zs,0,h,k,y,hk,hz=>by
  cases k with
  |zero=>exact absurd rfl hk
  |succ k=>exact bJ.mp (show zs.all okS=true from h) _ (cK<|by simpa using hz)
 |z::zs,i+1,h,k,y,hk,hz=>by
  have h':(okS z&&aNh zs i)=true:=h;rw[aR] at h';cases k with
  |zero=>
   have:z=y:=by simpa using hz
   subst this;exact h'.1
  |succ k=>exact wB h'.2 k y (λq=>hk<|by rw[q]) (by simpa using hz)
theorem aDv(ha:PEd X sd a ra)(hb:PEd X sd b rb)(ka:ra.keeps)(kb:rb.keeps)(hs:(isT ra.toD=true/\isT rb.toD=true)\/(isL ra.toD=true/\isL rb.toD=true))(p1:pl ra.toD=true)(p2:pl rb.toD=true)(hu:X.A.units+dep ra.toD+1<AN):PTd X sd (.Compare a [.Eq] [b] pos) (deq ra.toD rb.toD):=
 fY (aGS X.K _ _ hs p1 p2 hu) ha hb ka (eK _) λσ F H v u Q S q1 q2 k=>⟨q1.rep S ka,q2.rep S kb,k F H S<|Same.refl _⟩
noncomputable abbrev SQ:=Nat×Int×Int×Int
noncomputable def sqD(q:SQ):D:=lD q.1 q.2.1 q.2.2.1 q.2.2.2
structure oE(p:Int×Int)(q:SQ):Prop where
 sz:p∈sizes14
 k10:q.1<10
 i0:0<=q.2.1/\q.2.1<p.2
 j0:0<=q.2.2.1/\q.2.2.1<p.2
 n0:0<=q.2.2.2/\q.2.2.2<((2^p.1.toNat:Nat):Int)
theorem pw0(n:Nat):(0:Int)<((2^n:Nat):Int):=by have:0<2^n:=Nat.pow_pos (by decide);generalize 2^n=q at this ⊢;omega
noncomputable abbrev SK:=SQ×Int
noncomputable def skD(s:SK):D:=.tup [sqD s.1,.int s.2]
structure aHJ(p:Int×Int)(L:List SK):Prop where
 pos:0<L.length
 le:L.length<=8
 st:∀s∈L,oE p s.1/\1<=s.2/\s.2<=9
structure Fil(p:Int×Int)(ws:List Int):Prop where
 len:ws.length=p.2.toNat
 wd:∀w∈ws,0<=w/\w<((2^p.1.toNat:Nat):Int)
noncomputable def nwQ(p:Int×Int)(q:SQ)(ws:List Int):Int:=newW q.1 ((2^p.1.toNat:Nat):Int) (ws.getD q.2.1.toNat 0) (ws.getD q.2.2.1.toNat 0) q.2.2.2
noncomputable def onQ(p:Int×Int)(q:SQ)(ws:List Int):List Int:=ws.set q.2.1.toNat<|nwQ p q ws
noncomputable def aMX(p:Int×Int)(L:List SK)(row:List Nat)(ws:List Int):List Int:=row.foldl (λf t=>onQ p (L.getD t An).1 f) ws
noncomputable def aJO(row:List Nat):List D:=row.map λ(t:Nat)=>D.int (t:Int)
noncomputable def aML(L:List SK)(row:List Nat):List Int:=row.map λt=>(L.getD t An).2
noncomputable def aMF(l:List Int):Int:=preSum (λi=>l.getD i 0) l.length
mutual
theorem qT:∀d:D,pl d=true->deq d d=true
 |.non,_=>rfl
 |.bl b,_=>by simp[deq]
 |.int i,_=>by simp[deq]
 |.str x,_=>by simp[deq]
 |.tup ds,h=>by simp only[deq];exact rK ds (by simpa only[pl] using h)
 |.lst ds,h=>by simp only[deq];exact rK ds (by simpa only[pl] using h)
 |.dic,h=>by simp[pl] at h
 |.dki _ _,h=>by simp[pl] at h
 |.any _,h=>by simp[pl] at h
 |.scr _,h=>by simp[pl] at h
theorem rK:∀ds:List D,plL ds=true->jR ds ds=true
 |[],_=>rfl
 |d::ds,h=>by simp only[plL,aR] at h;simp only[jR,aR];exact⟨qT d h.1,rK ds h.2⟩
end
def ItAt(tp:Bool)(h:BE)(it src:BC)(i:Nat):Prop:=match tp with
 |true=>h.IsTupleIter it src i
 |false=>h.IsListIter it src i
def SqAt(tp:Bool)(h:BE)(src:BC)(xs:Array BA):Prop:=match tp with
 |true=>h.IsTuple src xs
 |false=>h.IsList src xs
theorem ItAt.ex{tp:Bool}{h:BE}{it src:BC}(x:ItAt tp h it src i):∃o,h.get? it=some o/\∀v,o.data≠ .cell v:=by
 cases tp with
 |true=>obtain⟨o,e,_,d⟩:=(show h.IsTupleIter it src i from x);exact⟨o,e,λv z=>by rw[d] at z;cases z⟩
 |false=>obtain⟨o,e,_,d⟩:=(show h.IsListIter it src i from x);exact⟨o,e,λv z=>by rw[d] at z;cases z⟩
theorem ItAt.keep{tp:Bool}{h h':BE}{it src:BC}(x:ItAt tp h it src i)(k:∀o,h.get? it=some o->h'.get? it=some o):ItAt tp h' it src i:=by
 cases tp with
 |true=>exact Heap.IsTupleIter.at (show h.IsTupleIter it src i from x) k
 |false=>exact Heap.IsListIter.at (show h.IsListIter it src i from x) k
theorem SqAt.keep{tp:Bool}{h h':BE}{src:BC}{xs:Array BA}(x:SqAt tp h src xs)(k:∀o,h.get? src=some o->h'.get? src=some o):SqAt tp h' src xs:=by
 cases tp with
 |true=>exact Heap.IsTuple.at (show h.IsTuple src xs from x) k
 |false=>exact Heap.IsList.at (show h.IsList src xs from x) k
theorem SqAt.lt{tp:Bool}{h:BE}{src:BC}{xs:Array BA}(x:SqAt tp h src xs):src<h.objs.size:=by
 cases tp with
 |true=>obtain⟨o,e,_⟩:=(show h.IsTuple src xs from x);exact aK e
 |false=>obtain⟨o,e,_⟩:=(show h.IsList src xs from x);exact aK e
variable {prog:AD}{A:BD}{E:BA->BB->Prop}
theorem aFs{it t:BC}{items:Array BA}{x:BA}{Q:BA->BB->Prop}(hit:s.heap.IsTupleIter it t i)(hl:s.heap.IsTuple t items)(hx:items[i]? =some x)(hQ:∀h',h'.IsTupleIter it t (i+1)->Heap.SameBut it s.heap h'->Q x {s with heap:=h'}):AE (AF prog w) A (Builtin.SmallTypes.nextOf<|.ref it) Q E s:=by unfold Builtin.SmallTypes.nextOf;obtain⟨o,ho,hc,hd⟩:=id hit;obtain⟨ol,hol,_,nl,hdl⟩:=hl;refine AA<|Al (name:=Str.ofString "__next__") hit.typeIs F.slot_tuple_iterator_next (wpAny_call_entry F.slot_tuple_iterator_next hit.typeIs F.entry_tuple_iterator_next ?_<|F.args_tuple_iterator_next_1 _);show AE _ _ (field (.ref it) 0>>=λl=>if(l==Value.none)=true then _ else field (.ref it) 1>>=_) _ _ s;refine AA<|AR ho hd (x:=.ref t) rfl ?_;rw[if_neg<|by exact bC];refine AA<|AR ho hd (x:=.int i 0) rfl (show AE _ _ (seqItems? (.ref t)>>=_) _ _ s from AA (AW hol hdl ?_));simp only[cD,hx];refine AA (wpAny_setField ho hd (by simp)<|AC ⟨x,rfl,AC (hQ _ ⟨_,cZ _ ho (Obj.isFreed_of_fields<|Obj.data_mapFields hd _),(Obj.cls_mapFields ..).trans hc, ?_⟩<|Heap.SameBut.update ..)⟩);rw[Obj.data_mapFields hd];simp[rawInt]
theorem aHT{it t:BC}{items:Array BA}{Q:BA->BB->Prop}(hh:A.handled=none)(hit:s.heap.IsTupleIter it t i)(hl:s.heap.IsTuple t items)(hx:items[i]? =none)
  (hE:∀h' e,Heap.ExtBut it s.heap h'->(∃o,h'.get? e=some o/\o.cls=.type "StopIteration")->E (.ref e) {s with heap:=h'}):AE (AF prog w) A (Builtin.SmallTypes.nextOf<|.ref it) Q E s:=by
 unfold Builtin.SmallTypes.nextOf;obtain⟨o,ho,hc,hd⟩:=id hit;obtain⟨ol,hol,_,nl,hdl⟩:=hl;refine AA<|Al (name:=Str.ofString "__next__") hit.typeIs F.slot_tuple_iterator_next (wpAny_call_entry F.slot_tuple_iterator_next hit.typeIs F.entry_tuple_iterator_next ?_<|F.args_tuple_iterator_next_1 _);show AE _ _ (field (.ref it) 0>>=λl=>if(l==Value.none)=true then _ else field (.ref it) 1>>=_) _ _ s;refine AA<|AR ho hd (x:=.ref t) rfl ?_;rw[if_neg<|by exact bC];refine AA<|AR ho hd (x:=.int i 0) rfl (show AE _ _ (seqItems? (.ref t)>>=_) _ _ s from AA (AW hol hdl ?_));simp only[cD,hx];refine AA<|wpAny_rule (AA<|wpAny_setField ho hd (by simp) (show AE _ _ (newExc (.type "StopIteration") []>>=_) _ _ _ from AA ?_));simp only[newExc,newTuple];refine AA (wpAny_newObj_type (AA (m:=firstArgMember _ _)<|wpAny_of_eq (a:=Value.none) (by first|rfl|(simp only[firstArgMember];rfl)) (wpAny_newObj_type ?_<|by size_fits))<|by size_fits);simp only[raiseNew];refine AA<|wpAny_handled ?_;rw[show A.in1.handled=none from hh];exact AA<|AC (wpAny_throw<|hE _ _ (((Heap.SameBut.update ..).extBut.push _).push _) ⟨_,aY _ rfl,rfl⟩)
theorem xZ{tp:Bool}{it t:BC}{items:Array BA}{x:BA}{Q:BA->BB->Prop}(hit:ItAt tp s.heap it t i)(hl:SqAt tp s.heap t items)(hx:items[i]? =some x)(hQ:∀h',ItAt tp h' it t (i+1)->Heap.SameBut it s.heap h'->Q x {s with heap:=h'}):AE (AF prog w) A (Builtin.SmallTypes.nextOf<|.ref it) Q E s:=by
 cases tp with
 |true=>exact aFs hit hl hx hQ
 |false=>exact wpAny_nextOf_list_item hit hl hx hQ
theorem aHk{tp:Bool}{it t:BC}{items:Array BA}{Q:BA->BB->Prop}(hh:A.handled=none)(hit:ItAt tp s.heap it t i)(hl:SqAt tp s.heap t items)(hx:items[i]? =none)
  (hE:∀h' e,Heap.ExtBut it s.heap h'->(∃o,h'.get? e=some o/\o.cls=.type "StopIteration")->E (.ref e) {s with heap:=h'}):AE (AF prog w) A (Builtin.SmallTypes.nextOf<|.ref it) Q E s:=by
 cases tp with
 |true=>exact aHT hh hit hl hx hE
 |false=>exact wpAny_nextOf_list_end hh hit hl hx hE
theorem aIL{p1 p2:Bool}{z TI TO i1 i2 l1 l2:BC}{k1 k2:Nat}{xs ys:Array BA}{x y a b:BA}{Q:BA->BB->Prop}(D:ZipApart z TI TO i1 i2 l1 l2)
  (hz:IsZip s.heap z TI TO .none) (hTI:Aj s.heap TI (.ref i1) (.ref i2)) (hTO:Aj s.heap TO a b) (h1:ItAt p1 s.heap i1 l1 k1) (h2:ItAt p2 s.heap i2 l2 k2) (hl1:SqAt p1 s.heap l1 xs) (hl2:SqAt p2 s.heap l2 ys) (hx:xs[k1]? =some x) (hy:ys[k2]? =some y)
  (hQ:∀h',IsZip h' z TI TO (rawInt s.heap.objs.size)->Aj h' TO x y->ItAt p1 h' i1 l1 (k1+1)->ItAt p2 h' i2 l2 (k2+1)->Aj h' s.heap.objs.size x y->h'.objs.size=s.heap.objs.size+1->(∀c o,c≠z->c≠TO->c≠i1->c≠i2->s.heap.get? c=some o->h'.get? c=some o)->Q (.ref s.heap.objs.size) {s with heap:=h'}):
  AE (AF prog w) A (Builtin.«zip.__next__» ⟨[.ref z],[]⟩) (λfin s'=>∃v,fin=.done (.ret v)/\Q v s') E s:=by
 refine(show AE _ _ (field (.ref z) 2>>=λ_=>field (.ref z) 3>>=_) _ _ _ from AA (AR hz rfl (x:=.bool false) rfl (AA<|AR hz rfl (x:=.ref TI) rfl (AA<|AW hTI rfl ?_))));refine(show AE _ _ (Builtin.SmallTypes.ownedTupleIsFree (.ref z)>>=_) _ _ _ from AA ?_);unfold Builtin.SmallTypes.ownedTupleIsFree;refine AA (AR hz rfl (x:=.none) rfl<|AC ?_);simp only[if_true];refine AA<|wpAny_rule (AA<|AR hz rfl (x:=.ref TO) rfl (AA<|Ac hz (by simp) λg1 hz1 s1=> ?_))
 replace hz1:IsZip g1 z TI TO .ellipsis:=hz1
 refine AA ?_;simp only[aJs,aJH,vM,aMg];have s1':=s1.extBut;refine AA (AA<|wpAny_onRaise (show AE _ _ (Builtin.SmallTypes.nextOf (.ref i1)>>=_) _ _ _ from AA (xZ (h1.keep λo e=>s1' _ _ D.i1z e) (hl1.keep λo e=>s1' _ _ D.l1z e) hx λg2 n1 s2=>AC ?_)));have s2':=s2.extBut;have o2:Aj g2 TO a b:=s2' _ _ D.TOi1<|s1' _ _ D.TOz hTO;refine AA (AW o2 rfl<|AA (wpAny_updateSeq_pair o2 λg3 o3 s3=>AA (wpAny_letGo<|AC ?_)))
 replace o3:Aj g3 TO x b:=o3
 have s3':=s3.extBut;refine AA (AA<|wpAny_onRaise (show AE _ _ (Builtin.SmallTypes.nextOf (.ref i2)>>=_) _ _ _ from AA (xZ (h2.keep λo e=>s3' _ _ D.TOi2.symm (s2' _ _ D.i12.symm<|s1' _ _ D.i2z e)) (hl2.keep λo e=>s3' _ _ D.l2TO (s2' _ _ D.l2i1<|s1' _ _ D.l2z e)) hy λg4 n2 s4=>AC ?_)));have s4':=s4.extBut;have o4:Aj g4 TO x b:=s4' _ _ D.TOi2 o3;refine AA (AW o4 rfl<|AA (wpAny_updateSeq_pair o4 λg5 o5 s5=>AA<|wpAny_letGo (AC<|AC ?_)))
 replace o5:Aj g5 TO x y:=o5
 have s5':=s5.extBut;refine AA<|AW o5 rfl (AA<|wpAny_newTuple ?_);have sz:g5.objs.size=s.heap.objs.size:=by rw[s5.1,s4.1,s3.1,s2.1,s1.1]
 have z5:IsZip g5 z TI TO .ellipsis:=s5' _ _ D.TOz.symm<|s4' _ _ D.i2z.symm (s3' _ _ D.TOz.symm<|s2' _ _ D.i1z.symm hz1);have k5:∀c o,c≠z->c≠TO->c≠i1->c≠i2->s.heap.get? c=some o->g5.get? c=some o:=λc o c1 c2 c3 c4 e=>s5' _ _ c2 (s4' _ _ c4<|s3' _ _ c2 (s2' _ _ c3<|s1' _ _ c1 e))
 have m1:ItAt p1 g5 i1 l1 (k1+1):=n1.keep λo e=>s5' _ _ D.TOi1.symm (s4' _ _ D.i12<|s3' _ _ D.TOi1.symm e)
 have m2:ItAt p2 g5 i2 l2 (k2+1):=n2.keep λo e=>s5' _ _ D.TOi2.symm e
 have zlt:z<g5.objs.size:=aK z5;refine(show AE _ _ (Builtin.SmallTypes.ownedTupleHandOut (.ref z) (.ref g5.objs.size)>>=_) _ _ _ from AA ?_);unfold Builtin.SmallTypes.ownedTupleHandOut;refine AA<|Ac (show IsZip (g5.push {cls:=.type "tuple",data:=.seq #[x,y]}) z TI TO .ellipsis from aC _ z5) (by simp) λg7 z7 s7=> ?_
 replace z7:IsZip g7 z TI TO (rawInt g5.objs.size):=z7
 refine Ac z7 (by simp) λg8 z8 s8=> ?_
 replace z8:IsZip g8 z TI TO (rawInt g5.objs.size):=z8
 have up:∀c o,c≠z->g5.get? c=some o->g8.get? c=some o:=λc o c1 e=>s8.extBut _ _ c1 (s7.extBut _ _ c1<|aC _ e)
 have t8:Aj g8 g5.objs.size x y:=s8.extBut _ _ (eX zlt) (s7.extBut _ _ (eX zlt)<|aY _ rfl);have q8:g8.objs.size=g5.objs.size+1:=by rw[s8.1,s7.1,gG]
 rw[sz] at z8 t8 q8;refine AC ⟨_,rfl,show Q (.ref g5.objs.size) _ from ?_⟩;rw[sz];exact hQ g8 z8 (up _ _ D.TOz o5) (m1.keep λo e=>up _ o D.i1z e) (m2.keep λo e=>up _ o D.i2z e) t8 q8 λc o c1 c2 c3 c4 e=>up c o c1<|k5 c o c1 c2 c3 c4 e
theorem aKr{p1 p2:Bool}{z TI TO i1 i2 l1 l2:BC}{k1 k2:Nat}{xs ys:Array BA}{a b:BA}{Q:Fin->BB->Prop}(hh:A.handled=none)(D:ZipApart z TI TO i1 i2 l1 l2)
  (hz:IsZip s.heap z TI TO .none) (hTI:Aj s.heap TI (.ref i1) (.ref i2)) (hTO:Aj s.heap TO a b) (h1:ItAt p1 s.heap i1 l1 k1) (h2:ItAt p2 s.heap i2 l2 k2) (hl1:SqAt p1 s.heap l1 xs) (hl2:SqAt p2 s.heap l2 ys) (hend:xs[k1]? =none\/ys[k2]? =none)
  (hE:∀h' e,(∀c o,c≠z->c≠TO->c≠i1->c≠i2->s.heap.get? c=some o->h'.get? c=some o)->(∃o,h'.get? e=some o/\o.cls=.type "StopIteration")->E (.ref e) {s with heap:=h'}):
  AE (AF prog w) A (Builtin.«zip.__next__» ⟨[.ref z],[]⟩) Q E s:=by
 refine(show AE _ _ (field (.ref z) 2>>=λ_=>field (.ref z) 3>>=_) _ _ _ from AA (AR hz rfl (x:=.bool false) rfl (AA<|AR hz rfl (x:=.ref TI) rfl (AA<|AW hTI rfl ?_))));refine(show AE _ _ (Builtin.SmallTypes.ownedTupleIsFree (.ref z)>>=_) _ _ _ from AA ?_);unfold Builtin.SmallTypes.ownedTupleIsFree;refine AA (AR hz rfl (x:=.none) rfl<|AC ?_);simp only[if_true];refine AA<|wpAny_rule (AA<|AR hz rfl (x:=.ref TO) rfl (AA<|Ac hz (by simp) λg1 hz1 s1=> ?_))
 replace hz1:IsZip g1 z TI TO .ellipsis:=hz1
 refine AA ?_;simp only[aJs,aJH,vM,aMg];have s1':=s1.extBut;refine AA (AA<|wpAny_onRaise (show AE _ _ (Builtin.SmallTypes.nextOf (.ref i1)>>=_) _ _ _ from ?_));cases hx:xs[k1]? with
 |none=>
  refine AA<|aHk hh (h1.keep λo e=>s1' _ _ D.i1z e) (hl1.keep λo e=>s1' _ _ D.l1z e) hx λg2 e s2 he=> ?_;obtain⟨oe,hoe,hce⟩:=he;have z2:IsZip g2 z TI TO .ellipsis:=s2 _ _ D.i1z.symm hz1;have ne:e≠z:=λx=>by subst x;rw[z2] at hoe;cases hoe;simp at hce
  exact Ac z2 (by simp) λg3 _ s3=>hE g3 e (λc o c1 _ c3 _ x=>s3.extBut _ _ c1 (s2 _ _ c3<|s1' _ _ c1 x)) ⟨oe,s3.extBut _ _ ne hoe,hce⟩
 |some x=>
  have hy:ys[k2]? =none:=by
   rcases hend with h|h
   ·rw[hx] at h;cases h
   ·exact h
  refine AA<|xZ (h1.keep λo e=>s1' _ _ D.i1z e) (hl1.keep λo e=>s1' _ _ D.l1z e) hx λg2 n1 s2=>AC ?_;have s2':=s2.extBut;have o2:Aj g2 TO a b:=s2' _ _ D.TOi1<|s1' _ _ D.TOz hTO;refine AA (AW o2 rfl<|AA (wpAny_updateSeq_pair o2 λg3 o3 s3=>AA (wpAny_letGo<|AC ?_)));have s3':=s3.extBut;refine AA (AA<|wpAny_onRaise (show AE _ _ (Builtin.SmallTypes.nextOf (.ref i2)>>=_) _ _ _ from AA (aHk hh (h2.keep λo e=>s3' _ _ D.TOi2.symm (s2' _ _ D.i12.symm<|s1' _ _ D.i2z e)) (hl2.keep λo e=>s3' _ _ D.l2TO (s2' _ _ D.l2i1<|s1' _ _ D.l2z e)) hy λg4 e s4 he=> ?_)));obtain⟨oe,hoe,hce⟩:=he;have z4:IsZip g4 z TI TO .ellipsis:=s4 _ _ D.i2z.symm (s3' _ _ D.TOz.symm<|s2' _ _ D.i1z.symm hz1);have ne:e≠z:=λx=>by subst x;rw[z4] at hoe;cases hoe;simp at hce
  exact Ac z4 (by simp) λg5 _ s5=>hE g5 e (λc o c1 c2 c3 c4 x=>s5.extBut _ _ c1 (s4 _ _ c4<|s3' _ _ c2 (s2' _ _ c3<|s1' _ _ c1 x))) ⟨oe,s5.extBut _ _ ne hoe,hce⟩
theorem aFO{p1 p2:Bool}{z TI TO i1 i2 l1 l2:BC}{k1 k2:Nat}{xs ys:Array BA}{x y a b:BA}{Q:Option BA->BB->Prop}(D:ZipApart z TI TO i1 i2 l1 l2)
  (hz:IsZip s.heap z TI TO .none) (hTI:Aj s.heap TI (.ref i1) (.ref i2)) (hTO:Aj s.heap TO a b) (h1:ItAt p1 s.heap i1 l1 k1) (h2:ItAt p2 s.heap i2 l2 k2) (hl1:SqAt p1 s.heap l1 xs) (hl2:SqAt p2 s.heap l2 ys) (hx:xs[k1]? =some x) (hy:ys[k2]? =some y)
  (hQ:∀h',IsZip h' z TI TO (rawInt s.heap.objs.size)->Aj h' TO x y->ItAt p1 h' i1 l1 (k1+1)->ItAt p2 h' i2 l2 (k2+1)->Aj h' s.heap.objs.size x y->h'.objs.size=s.heap.objs.size+1->(∀c o,c≠z->c≠TO->c≠i1->c≠i2->s.heap.get? c=some o->h'.get? c=some o)->Q (some<|.ref s.heap.objs.size) {s with heap:=h'}):
  AE (AF prog w) A (pyNext<|.ref z) Q E s:=by
 have hT:s.TypeIs (.ref z) "zip":=⟨_,hz,rfl⟩;unfold pyNext;exact AA (wpAny_attempt<|Al (name:=Str.ofString "__next__") hT F.slot_zip_next (wpAny_call_entry F.slot_zip_next hT F.entry_zip_next (aIL D hz hTI hTO h1 h2 hl1 hl2 hx hy λh' a1 a2 a3 a4 a5 a6 a7=>AC<|hQ h' a1 a2 a3 a4 a5 a6 a7)<|F.args_zip_next_1 _))
theorem aJb{p1 p2:Bool}{z TI TO i1 i2 l1 l2:BC}{k1 k2:Nat}{xs ys:Array BA}{a b:BA}{Q:Option BA->BB->Prop}(hh:A.handled=none)(D:ZipApart z TI TO i1 i2 l1 l2)
  (hz:IsZip s.heap z TI TO .none) (hTI:Aj s.heap TI (.ref i1) (.ref i2)) (hTO:Aj s.heap TO a b) (h1:ItAt p1 s.heap i1 l1 k1) (h2:ItAt p2 s.heap i2 l2 k2) (hl1:SqAt p1 s.heap l1 xs) (hl2:SqAt p2 s.heap l2 ys) (hend:xs[k1]? =none\/ys[k2]? =none)
  (hQ:∀h',(∀c o,c≠z->c≠TO->c≠i1->c≠i2->s.heap.get? c=some o->h'.get? c=some o)->Q none {s with heap:=h'}):AE (AF prog w) A (pyNext<|.ref z) Q E s:=by
 have hT:s.TypeIs (.ref z) "zip":=⟨_,hz,rfl⟩;unfold pyNext;refine AA (wpAny_attempt<|Al (name:=Str.ofString "__next__") hT F.slot_zip_next (wpAny_call_entry F.slot_zip_next hT F.entry_zip_next (aKr hh D hz hTI hTO h1 h2 hl1 hl2 hend λh' e hk he=> ?_)<|F.args_zip_next_1 _));obtain⟨o,ho,hc⟩:=he;exact AA<|wpAny_isInstance (T:="StopIteration") (b:=true) ⟨o,ho,hc⟩ isSubtype_stop (AC<|hQ _ hk)
theorem aGD{h':BE}{t':Nat}{ch:List BC}(I:Inv X pins σ H s)(k:∀b o,b∉ch->s.heap.get? b=some o->h'.get? b=some o)(f:∀b∈ch,vQ X pins H b):Inv X pins σ H {s with heap:=h',toks:=t'}:=by
 have nit:∀b u,H b=some u->b∉ch:=λb u q hb=>by rw[(f b hb).1] at q;cases q
 refine I.step (g':=s.gens) (d':=s.drawn) (ch:=ch) (λb hb=> ?_) (λb o _ _ hc q _=>k b o hc q) (λb o _ _ hc q _=>⟨o.slots,k b o hc q⟩) (λ_ _ _ _ n=>n) (λb o hc q=>⟨o,k b o hc q⟩) (λ_ _ q=>q) (λ_ _ _ q=>q) (λb ps q=>⟨#[],by rw[q];simp⟩) (λm hm=> ?_) (λb u q=> ?_) I.bare
 ·have z:=f b hb;exact⟨z.2.2.2.1,z.2.1,z.2.2.2.2.1,z.2.2.2.2.2⟩
 ·obtain⟨o,es,ep,ho,r⟩:=hm;exact⟨o,es,ep,k _ o (λhb=>(f _ hb).2.1 rfl) ho,r⟩
 ·refine(I.hok b u q).stay (λc v hc g=> ?_) (λ_ g=>g) λ_ _ g=>g
  rcases hc with z|z
  ·rw[z] at g ⊢;exact k b v (nit b u q) g
  ·exact k c v (nit c _ z) g
def SqB(tp:Bool)(K:aA)(H:Hp)(a:BC)(xs:List V):Prop:=match tp with
 |true=>SqT K H a xs
 |false=>SqL K H a xs
theorem rO{tp:Bool}{a:BC}(I:Inv X pins σ H s)(h:SqB tp X.K H a xs):∃its:List BA,Vals xs its/\SqAt tp s.heap a its.toArray:=by
 cases tp with
 |true=>obtain⟨its,rv,p,_⟩:=I.tuple (show SqT X.K H a xs from h);exact⟨its,rv,p⟩
 |false=>obtain⟨its,rv,p,_⟩:=I.list (show SqL X.K H a xs from h);exact⟨its,rv,p.isList⟩
theorem aCv{tp:Bool}{a:BC}{ys:List V}(I:Inv X pins σ H s)(h:SqB tp X.K H a xs)(g:SqB tp X.K H a ys):xs=ys:=by
 cases tp with
 |true=>exact I.tuple_inj h g
 |false=>exact I.list_inj h g
noncomputable def Itz(p1 p2:Bool)(K:aA)(a b:BC):It:=
 ⟨λi H=>∃xs ys x y,SqB p1 K H a xs/\SqB p2 K H b ys/\xs[i]? =some x/\ys[i]? =some y,λi H v H'=>∃p x y,v=.ref p/\H p=none/\H'=upd H p (.tup [x,y])/\(∀xs,SqB p1 K H a xs->xs[i]? =some x)/\∀ys,SqB p2 K H b ys->ys[i]? =some y,λi H=>∃xs ys,SqB p1 K H a xs/\SqB p2 K H b ys/\(xs.length<=i\/ys.length<=i)⟩
theorem aFA{elts:List Expr}{kk:Nat}{p1 p2:Bool}(a b z TI TO i1 i2:BC)(D:ZipApart z TI TO i1 i2 a b):aGn P w K (.Tuple elts kk pos) (Itz p1 p2 K a b) [z,TO,i1,i2,TI] z (λi h=>IsZip h z TI TO .none/\Aj h TI (.ref i1) (.ref i2)/\(∃c d,Aj h TO c d)/\ItAt p1 h i1 a i/\ItAt p2 h i2 b i) where
 mem:=by simp
 obj:=λi h st c hc=>by
  obtain⟨hz,hTI,⟨x,y,hTO⟩,h1,h2⟩:=st;simp only[aG,bD,or_false] at hc
  rcases hc with rfl|rfl|rfl|rfl|rfl
  ·exact⟨_,hz,λv q=>by cases q⟩
  ·exact⟨_,hTO,λv q=>by cases q⟩
  ·exact h1.ex
  ·exact h2.ex
  ·exact⟨_,hTI,λv q=>by cases q⟩
 keep:=λi h h' st k=>by obtain⟨hz,hTI,⟨x,y,hTO⟩,h1,h2⟩:=st;exact⟨k z (by simp) _ hz,k TI (by simp) _ hTI,⟨x,y,k TO (by simp) _ hTO⟩,h1.keep λo q=>k i1 (by simp) o q,h2.keep λo q=>k i2 (by simp) o q⟩
 item:=by
  intro X hP hw hK hc i pins s σ H E I hf st hg;subst hP hw hK;obtain⟨hz,hTI,⟨c,d,hTO⟩,h1,h2⟩:=st;obtain⟨xs,ys,x,y,qx,qy,ex,ey⟩:=hg;obtain⟨its,rv,sx⟩:=rO I qx;obtain⟨jts,rw',sy⟩:=rO I qy;obtain⟨u,hu,ru⟩:=rv.get ex;obtain⟨v,hv,rv'⟩:=rw'.get ey;refine aFO D hz hTI hTO h1 h2 sx sy (x:=u) (y:=v) (by simpa using hu) (by simpa using hv) λg1 z1 o1 n1 n2 t1 sz1 k1=> ?_
  refine⟨_,rfl,wpAny_letOwnedTupleGo_zip z1 λg2 z2 s2=> ?_⟩;have s2':=s2.extBut
  have lt:∀b∈[z,TO,i1,i2,TI],b<s.heap.objs.size:=λb hb=>by
   simp only[aG,bD,or_false] at hb
   rcases hb with rfl|rfl|rfl|rfl|rfl
   ·exact aK hz
   ·exact aK hTO
   ·obtain⟨_,q,_⟩:=h1.ex;exact aK q
   ·obtain⟨_,q,_⟩:=h2.ex;exact aK q
   ·exact aK hTI
  have I1:Inv X pins σ H {s with heap:=g2}:=aGD (t':=s.toks) (ch:=[z,TO,i1,i2]) I (fun b o hb q=>by
   simp only[aG,bD,or_false,not_or] at hb
   exact s2' _ _ hb.1 (k1 b o hb.1 hb.2.1 hb.2.2.1 hb.2.2.2 q)) λb hb=>hf b (by simp only[aG,bD,or_false] at hb ⊢;rcases hb with q|q|q|q<;>simp[q])
  have hn:H s.heap.objs.size=none:=I.hok.fresh<|aO _;have t2:g2.get? s.heap.objs.size=some {cls:=.type "tuple",data:=.seq #[u,v]}:=s2' _ _ (eX (lt z<|by simp)) t1
  have I2:Inv X pins σ (upd H s.heap.objs.size<|.tup [x,y]) {s with heap:=g2}:=by
   refine I1.track hn I.sz (eX I.lt) (λy c q=> ?_) (λy hy=> ?_) ⟨by show 2<=AH;decide,[u,v],.cons ru<|.cons rv' .nil,⟨_,t2,rfl,⟨_,rfl⟩,rfl⟩⟩
   ·obtain⟨v,o,ho,_⟩:=I.cell y c q;exact bG<|aK ho
   ·exact bG<|aK (I.pin y hy).1
  refine⟨.ref s.heap.objs.size,_,I2,rfl,⟨_,x,y,rfl,hn,rfl,λzs hz=>by rw[aCv I hz qx];exact ex,λzs hz=>by rw[aCv I hz qy];exact ey⟩,⟨z2,s2' _ _ D.TIz<|k1 _ _ D.TIz D.TITO D.TIi1 D.TIi2 hTI,⟨_,_,s2' _ _ D.TOz o1⟩,n1.keep λo q=>s2' _ _ D.i1z q,n2.keep λo q=>s2' _ _ D.i2z q⟩,λb hb=> ?_⟩;rw[bK (bG<|lt b hb)];exact(hf b hb).1
 done:=by
  intro X hP hw hK hc i pins s σ H E I hf st hg;subst hP hw hK;obtain⟨hz,hTI,⟨c,d,hTO⟩,h1,h2⟩:=st;obtain⟨xs,ys,qx,qy,hl⟩:=hg;obtain⟨its,rv,sx⟩:=rO I qx;obtain⟨jts,rw',sy⟩:=rO I qy;have l1:=rv.length;have l2:=rw'.length
  refine aJb (I.ok.hd hc) D hz hTI hTO h1 h2 sx sy (by
   rcases hl with q|q
   ·left;simp;omega
   ·right;simp
    omega) λh' k=>⟨rfl, ?_⟩
  exact aGD (t':=s.toks) (ch:=[z,TO,i1,i2]) I (fun b o hb q=>by
   simp only[aG,bD,or_false,not_or] at hb
   exact k b o hb.1 hb.2.1 hb.2.2.1 hb.2.2.2 q) λb hb=>hf b (by simp only[aG,bD,or_false] at hb ⊢;rcases hb with q|q|q|q<;>simp[q])
 self:=λ_ _ _ _ _ st h=>by obtain⟨hz,_⟩:=st;exact wpAny_pyIter_zip hz h
noncomputable def itO(tp:Bool)(l:BC):BF:=match tp with
 |true=>{cls:=.type "tuple_iterator",data:=.fields #[.ref l,.int 0 0]}
 |false=>{cls:=.type "list_iterator",data:=.fields #[.ref l,.int 0 0]}
theorem aHb{tp:Bool}{h:BE}{it:BC}(e:h.get? it=some (itO tp l)):ItAt tp h it l 0:=by
 cases tp with
 |true=>exact⟨_,e,rfl,rfl⟩
 |false=>exact⟨_,e,rfl,rfl⟩
theorem aGW(tp:Bool)(l:BC):(itO tp l).isFreed=false:=by cases tp<;>rfl
theorem pyI{tp:Bool}{xs:Array BA}{Q:BA->BB->Prop}(h:SqAt tp s.heap l xs)(hQ:Q (.ref s.heap.objs.size) {s with heap:=s.heap.push (itO tp l)}):AE (AF prog w) A (pyIter<|.ref l) Q E s:=by
 cases tp with
 |true=>exact wpAny_pyIter_tuple h hQ
 |false=>exact Ap h hQ
noncomputable abbrev zA(p:Bool)(h:BE)(l:BC):BE:=h.push<|itO p l
noncomputable abbrev zB(p q:Bool)(h:BE)(l m:BC):BE:=(zA p h l).push<|itO q m
noncomputable abbrev zC(p q:Bool)(h:BE)(l m:BC):BE:=(zB p q h l m).push {cls:=.type "tuple",data:=.seq #[.ref h.objs.size,.ref (zA p h l).objs.size]}
noncomputable abbrev zD(p q:Bool)(h:BE)(l m:BC):BE:=(zC p q h l m).push {cls:=.type "tuple",data:=.seq #[.none,.none]}
noncomputable abbrev zE(p q:Bool)(h:BE)(l m:BC):BE:=(zD p q h l m).push {cls:=.type "zip",data:=.fields #[.none,.bool false,.bool false,.ref (zB p q h l m).objs.size,.ref (zC p q h l m).objs.size]}
theorem aKU(p q:Bool)(l m:BC)(xs ys:Array BA):Meets (Builtin.«zip.__new__» ⟨[.type "zip",.ref l,.ref m],[]⟩) (λ_ R s=>SqAt p s.heap l xs/\SqAt q s.heap m ys/\R (.ok (.ret<|.ref (zD p q s.heap l m).objs.size)) {s with heap:=zE p q s.heap l m}):=
 .of_wp λprog w A R s h=>by
  obtain⟨hp,g,d,tk,os⟩:=s;obtain⟨a1,a2,h⟩:=h;have hsub:=sub_zip;have b1:SqAt p (Shared.heap ⟨hp,g,d,tk,os⟩) l xs:=a1;have b2:SqAt q (Shared.heap ⟨hp.push<|itO p l,g,d,tk,os⟩) m ys:=SqAt.keep a2 λo e=>aC _ e
  wp_walk using pyI b1,pyI b2
  exact⟨_,rfl,h⟩
theorem aIS{p q:Bool}{m:BC}{xs ys:Array BA}{Q:BA->BB->Prop}(a1:SqAt p s.heap l xs)(a2:SqAt q s.heap m ys)
  (h:∀h',IsZip h' (s.heap.objs.size+4) (s.heap.objs.size+2) (s.heap.objs.size+3) .none->Aj h' (s.heap.objs.size+2) (.ref s.heap.objs.size) (.ref<|s.heap.objs.size+1)->Aj h' (s.heap.objs.size+3) .none .none->ItAt p h' s.heap.objs.size l 0->ItAt q h' (s.heap.objs.size+1) m 0->(∀c o,s.heap.get? c=some o->h'.get? c=some o)->Q (.ref<|s.heap.objs.size+4) {s with heap:=h'}):
  AE (AF prog w) A (call (.type "zip") [.ref l,.ref m]) Q E s:=by
 refine callType_new F.called_zip (by decide) (F.typeCall_zip_2 _ _) (F.newCall_zip_2 _ _) (λobj=>F.args_object_init_3 obj _ _) F.entry_zip_new (aKU p q l m xs ys) ⟨a1,a2, ?_⟩;have z1:(zA p s.heap l).objs.size=s.heap.objs.size+1:=gG ..;have z2:(zB p q s.heap l m).objs.size=s.heap.objs.size+2:=by rw[gG,z1]
 have z3:(zC p q s.heap l m).objs.size=s.heap.objs.size+3:=by rw[gG,z2]
 have z4:(zD p q s.heap l m).objs.size=s.heap.objs.size+4:=by rw[gG,z3]
 have g5:(zE p q s.heap l m).get? (zD p q s.heap l m).objs.size=some _:=aY _ rfl;have g4:(zE p q s.heap l m).get? (zC p q s.heap l m).objs.size=some _:=aC _<|aY _ rfl;have g3:(zE p q s.heap l m).get? (zB p q s.heap l m).objs.size=some _:=aC _ (aC _<|aY _ rfl);have g2:(zE p q s.heap l m).get? (zA p s.heap l).objs.size=some (itO q m):=aC _ (aC _<|aC _ (aY _<|aGW q m));have g1:(zE p q s.heap l m).get? s.heap.objs.size=some (itO p l):=aC _<|aC _ (aC _<|aC _ (aY _<|aGW p l));show _/\_;rw[z2,z3,z4] at g5;rw[z1,z2] at g3;rw[z3] at g4;rw[z1] at g2;rw[z4];exact⟨⟨_,g5,rfl⟩,h _ g5 g3 g4 (aHb g1) (aHb g2) λc o x=>aC _ (aC _<|aC _ (aC _<|aC _ x))⟩
variable {E:fW}
theorem aMd{elts:List Expr}{kk:Nat}{tp:Pos}{ta:TA}{p:Pos}{p1 p2:Bool}(hg:Gl X "zip")(hm:X.mg "zip"=none)(ha:PA X [a,b] ta)(hs:AB [a,b] X.env=[(false,eval a X.env),(false,eval b X.env)]:=by rfl)(hs2:AB [b] X.env=[(false,eval b X.env)]:=by rfl):
  PI X (.Tuple elts kk tp) (.Call (.Name "zip" p) [a,b] [] pos) (λσ H R=>ta σ H λvs H1=>∃l m,vs=[.ref l,.ref m]/\(∃xs,SqB p1 X.K H1 l xs)/\(∃ys,SqB p2 X.K H1 m ys)/\R (Itz p1 p2 X.K l m) H1):=by
 intro pins s σ H R I h;refine Call_<|nE I hg hm PyProof.Rows.boot_zip (PyProof.Rows.callWith_type1 (thn (ha pos pins s σ H _ I h) λus s1 ⟨vs,H1,I1,r1,q1⟩=> ?_) (by rw[hs,hs2])<|by rw[hs2];rfl);obtain⟨l,m,rfl,⟨xs,qx⟩,⟨ys,qy⟩,k⟩:=q1;cases r1 with
 |cons r rr=>
  cases rr with
  |cons r2 rr2=>
   cases rr2;cases r;cases r2;obtain⟨its,rv,sx⟩:=rO I1 qx;obtain⟨jts,rw',sy⟩:=rO I1 qy;refine aIS sx sy λh' a1 a2 a3 a4 a5 kp=>wpAny_pyIter_zip a1 ?_
   have I2:Inv X pins σ H1 {s1 with heap:=h'}:=I1.kept (t':=s1.toks) kp;have lx:=sx.lt;have ly:=sy.lt
   have ap:ZipApart (s1.heap.objs.size+4) (s1.heap.objs.size+2) (s1.heap.objs.size+3) s1.heap.objs.size (s1.heap.objs.size+1) l m:=by
    refine⟨?_, ?_, ?_, ?_, ?_, ?_, ?_, ?_, ?_, ?_, ?_, ?_, ?_, ?_, ?_, ?_, ?_, ?_⟩
    all_goals first|(exact bG<|by omega)|(exact eX<|by omega)|(exact bG lx)|(exact bG ly)|(exact bG (aX lx<|vB _ _))|(exact bG (aX ly<|vB _ _))
   refine⟨s1.heap.objs.size+4,_,_,Itz p1 p2 X.K l m,H1,rfl,I2,aFA l m _ _ _ _ _ ap,⟨a1,a2,⟨_,_,a3⟩,a4,a5⟩,λb hb=> ?_,k⟩
   have hb2:s1.heap.objs.size<=b:=by
    simp only[aG,bD,or_false] at hb
    rcases hb with rfl|rfl|rfl|rfl|rfl<;>omega
   exact I1.fpOk hb2<|I1.hok.fresh hb2
noncomputable def aJB(ds es:List D):List D:=(cI<|min ds.length es.length).map λ(i:Nat)=>D.tup [ds.getD i .non,es.getD i .non]
theorem uM(ds es:List D):(aJB ds es).length=min ds.length es.length:=by simp[aJB]
theorem aAI{es:List D}(h:(aJB ds es)[i]? =some d):∃x y,ds[i]? =some x/\es[i]? =some y/\d=.tup [x,y]:=by
 unfold aJB at h;rw[bQ] at h
 by_cases hi:i<min ds.length es.length
 ·rw[aEJ hi] at h;have h1:i<ds.length:=by omega
  have h2:i<es.length:=by omega
  refine⟨ds[i],es[i],by simp[h1],by simp[h2], ?_⟩;rw[<-cC.inj h];simp[dS,h1,h2]
 ·rw[eA<|by simpa using hi] at h;cases h
noncomputable def aJN(tp:Bool)(ds:List D):D:=match tp with
 |true=>.tup ds
 |false=>.lst ds
theorem aDk{tp:Bool}(h:Rep K F (aJN tp ds) v):∃a xs,v=.ref a/\RepL K F ds xs/\∀ {F' H:Hp},Same F F'->Same F' H->SqB tp K H a xs:=by
 cases tp with
 |true=>simp only[aJN,Rep] at h;obtain⟨a,xs,e,ha,rl⟩:=h;exact⟨a,xs,e,rl,λs1 s2=>.of (s2 _ _<|s1 _ _ ha)⟩
 |false=>simp only[aJN,Rep] at h;obtain⟨a,xs,e,ha,rl⟩:=h;exact⟨a,xs,e,rl,λs1 s2=>.of (s2 _ _<|s1 _ _ ha)⟩
theorem aIB{elts:List Expr}{kk:Nat}{tp p:Pos}{es2:List D}(p1 p2:Bool)(hg:Gl X "zip")(hm:X.mg "zip"=none)(ha:PEd X sd a (.val<|aJN p1 ds))(hb:PEd X sd b (.val<|aJN p2 es2))(hst:AB [a,b] X.env=[(false,eval a X.env),(false,eval b X.env)]:=by rfl)(hst2:AB [b] X.env=[(false,eval b X.env)]:=by rfl):
  PId X sd PT0 (.Tuple elts kk tp) (.Call (.Name "zip" p) [a,b] [] pos) (aJB ds es2):=.mk λσ F H S=>
 (aMd (p1:=p1) (p2:=p2) hg hm xN hst hst2).to ((aB ha (aB hb aN trivial (by rw [hst2]; rfl)) trivial (by rw [hst,hst2]) σ F H S).imp fun vs H1 ⟨F1,S1,s1,q1⟩=>by
  cases q1 with
  |cons q1 q2=>
   cases q2 with
   |cons q2 q3=>
    cases q3;obtain⟨l,xs,rfl,rx,sx⟩:=aDk (show Rep _ _ _ _ from q1);obtain⟨m,ys,rfl,ry,sy⟩:=aDk (show Rep _ _ _ _ from q2);refine⟨l,m,rfl,⟨xs,sx (Same.refl _) S1.sub⟩,⟨ys,sy (Same.refl _) S1.sub⟩,F1,S1,s1,λF' H' sF sH sm _ i=>⟨λhi=> ?_,λhi=> ?_,λx H2 d hd y=> ?_⟩⟩
    ·rw[uM] at hi;exact⟨xs,ys,xs[i]'(by rw[rx.len];omega),ys[i]'(by rw[ry.len];omega),sx sF sH,sy sF sH,by simp,by simp⟩
    ·rw[uM] at hi;refine⟨xs,ys,sx sF sH,sy sF sH, ?_⟩;rw[rx.len,ry.len];omega
    ·obtain⟨q,u,v,rfl,hq,rfl,hu,hv⟩:=y;obtain⟨du,dv,e1,e2,rfl⟩:=aAI hd;have hu:=hu xs<|sx sF sH;have hv:=hv ys<|sy sF sH;obtain⟨u',h1,ru⟩:=rx.get e1;obtain⟨v',h2,rv⟩:=ry.get e2;rw[hu] at h1;rw[hv] at h2;cases h1;cases h2;have fq:F' q=none:=sH.free hq;have s2:Same F' (upd F' q<|.tup [u,v]):=λb o g=>by rw[bK<|cF g fq];exact g
     refine⟨upd F' q<|.tup [u,v],s2, ?_,λH₀ σ sd S=>(S.lay (o:=.tup [u,v]) hq trivial).1⟩;simp only[Rep]
     exact⟨q,_,rfl,bR,.cons ((ru.mono sF).mono s2) (.one ((rv.mono sF).mono s2))⟩)
noncomputable def tabQ(p:Int×Int)(L:List SK)(row:List Nat):List (List Int):=(yL (2^p.1.toNat) p.2.toNat).map λws=>aMX p L row ws
noncomputable def isN:D->Bool
 |.non=>true
 |_=>false
theorem aIv(h:Rep K H d v):decide (v=.non)=isN d:=by
 cases d with
 |non=>simp only[Rep] at h;subst h;rfl
 |bl=>simp only[Rep] at h;subst h;rfl
 |int=>simp only[Rep] at h;subst h;rfl
 |str=>simp only[Rep] at h;subst h;rfl
 |tup=>simp only[Rep] at h;obtain⟨a,xs,rfl,_⟩:=h;rfl
 |lst=>simp only[Rep] at h;obtain⟨a,xs,rfl,_⟩:=h;rfl
 |dic=>simp only[Rep] at h;obtain⟨a,rfl,_⟩:=h;rfl
 |dki=>simp only[Rep] at h;obtain⟨a,xs,rfl,_⟩:=h;rfl
 |any=>simp only[Rep] at h;obtain⟨⟨a,rfl⟩,_⟩:=h;rfl
 |scr=>simp only[Rep] at h;obtain⟨a,rfl,_⟩:=h;rfl
theorem nO(ha:PEd X sd a (.val d))(hb:PEd X sd b (.val .non)):PTd X sd (.Compare a [.Is] [b] pos) (isN d):=
 fY aKx ha hb trivial (eK _) λσ F H v u Q S q1 q2 k=>by simp only[ResOk,Rep] at q2;have q1:Rep _ _ _ _:=q1;exact⟨q2,by rw[aIv q1];exact k F H S<|Same.refl _⟩
structure FunD(K:aA)(x qual:Str)(st:BG)(f:BC)(fd:AJ):Prop where
 ex:∃ (oc:BA) (od:Option BC) (T:BC) (kV doc pm:BA) (an:Option BC) (cdv ct:BA) (osl:Array (Option BA)) (tc:BA) (td:Option BC) (n:Nat) (tsl:Array (Option BA)),
  fd=cU x qual (fK st) (dG st) (bE st) (.ref T) kV doc pm an cdv ct/\K.lookup f=some ⟨oc,od,.func fd,osl⟩/\fE K cdv qual=true/\K.lookup T=some ⟨tc,td,.seq #[.none] n,tsl⟩
 kp:bS K (.ref f)=true
structure aNY(P:AD)(w:AG)(K:aA)(mg:Str->Option BA)(base:BE)(x:Str)(k n:Nat)(C:List D->R->Prop):Prop where
 ex:∃ (f:BC) (fd:AJ) (ps:List Str),mg x=some (.ref f)/\bS K (.ref f)=true/\Binds K fd ps []/\Binds K fd ps [.none]/\FnOk P w K mg base CX0 k f fd ps (spC K n C)
noncomputable def qL(p:Int×Int):List (List Int):=yL (2^p.1.toNat) p.2.toNat
noncomputable def unl(bs:List Nat)(a b:List Int):Bool:=bs.any λj=> !decide (a.getD j 0=b.getD j 0)
noncomputable def unK(bs:List Nat)(T U:List (List Int))(k:Nat):Bool:=unl bs (T.getD k [])<|U.getD k []
noncomputable def aLc(bs:List Nat)(A T U:List (List Int)):Option (List Int):=((cI A.length).find? λk=>unK bs T U k).map λk=>A.getD k []
noncomputable def optD:Option (List Int)->D
 |none=>.non
 |some ws=>aGs ws
noncomputable def lkD:Option (List Nat)->D
 |none=>.non
 |some l=>.lst<|aJO l
noncomputable def bxQ(n:Nat):Option (List Nat)->List Nat
 |none=>cI n
 |some l=>l
structure aKa(p:Int×Int)(T:List (List Int)):Prop where
 len:T.length=(qL p).length
 fil:∀ws∈T,Fil p ws
def aMr(p:Int×Int)(o:Option (List Nat)):Prop:=∀l,o=some l->l.length<=100/\∀b∈l,b<p.2.toNat
def aHB:List D->R->Prop:=λds r=>∃p T U o b,p∈sizes14/\aKa p T/\aKa p U/\aMr p o/\ds=[bW p,.tup<|T.map aGs,.tup<|U.map aGs,lkD o,.int b]/\r=.val (optD<|aLc (bxQ p.2.toNat o) (qL p) T U)
theorem aDZ(d:D)(ds:List D)(p1:pl d=true)(p2:plL ds=true)(hu:X.A.units+1+lY ds<AN):OpR X (AK .NotIn) (λx y H Q=>Rep X.K H (.lst ds) y/\Rep X.K H d x/\Q (.bl<|!ds.any λz=>deq z d) H):=by
 intro pins s σ H x y v u Q I rx ry h;obtain⟨hl,hd,k⟩:=h;obtain⟨a,xs,its,rfl,rfl,rl,rv,ht⟩:=iB I.hok hl ry
 have hat:∀ (j:Nat) (w:BA),its[j]? =some w->∃z v,ds[j]? =some z/\xs[j]? =some v/\Rep X.K H z v/\RelV v w:=λj w hw=>by
  have hj:j<its.length:=(bF.mp hw).1;have hx:j<xs.length:=by rw[Vals.length rv];exact hj
  have hd:j<ds.length:=by rw[<-rl.len];exact hx
  obtain⟨v,hv,rz⟩:=rl.get (i:=j) (d:=ds[j]) (by simp[hd])
  exact ⟨ds[j],v,by simp [hd],hv,rz,by
   have:=rv.get hv;obtain⟨w',hw',r⟩:=this;rw[hw] at hw';cases hw'
   exact r⟩
 have dc:=λw:BA=>Classical.propDecidable (∃ (j:Nat) (z:D),its[j]? =some w/\ds[j]? =some z/\deq z d=true)
 refine SeqAt.notIn_listAt (λw=> @decide _<|dc w) ht (λw hw=> ?_) ⟨.bl _,H,I,rfl, ?_⟩
 ·by_cases q:∃ (j:Nat) (z:D),its[j]? =some w/\ds[j]? =some z/\deq z d=true
  ·obtain⟨j,z,e1,e2,e3⟩:=q;obtain⟨z',v,f1,f2,f3,f4⟩:=hat j w e1;rw[e2] at f1;cases f1;have: @decide _ (dc w)=true:=by rw[decide_eq_true_eq];exact⟨j,z,e1,e2,e3⟩
   rw[this,<-e3];exact rZ I.hok z (qU p2 e2) p1 f3 hd f4 rx (by have:=mX e2;show X.A.units+1+dep z<AN;omega)
  ·have hw':w∈its:=by simpa using hw
   obtain⟨j,hj,rfl⟩:=gR hw';obtain⟨z,v,f1,f2,f3,f4⟩:=hat j its[j] (by simp[hj])
   have e3:deq z d=false:=by
    cases h:deq z d with
    |false=>rfl
    |true=>exact(q ⟨j,z,by simp[hj],f1,h⟩).elim
   have: @decide _ (dc its[j])=false:=by rw[decide_eq_false_iff_not];exact q
   rw[this,<-e3];exact rZ I.hok z (qU p2 f1) p1 f3 hd f4 rx (by have:=mX f1;show X.A.units+1+dep z<AN;omega)
 ·have e:its.toArray.any (λw=> @decide _<|dc w)=ds.any λz=>deq z d:=by
   rw[dZ,aJt,eY,eY]
   constructor
   ·rintro⟨w,hw,q⟩;rw[decide_eq_true_eq] at q;obtain⟨j,z,e1,e2,e3⟩:=q;exact⟨z,cK e2,e3⟩
   ·rintro⟨z,hz,e3⟩;obtain⟨j,hj,rfl⟩:=gR hz;have hi:j<its.length:=by rw[<-Vals.length rv,rl.len];exact hj
    exact⟨its[j],dE hi,by rw[decide_eq_true_eq];exact⟨j,ds[j],by simp[hi],by simp[hj],e3⟩⟩
  rw[e];exact k
theorem aFp(ha:PEd X sd a (.val d))(hb:PEd X sd b (.val<|.lst ds))(p1:pl d=true)(p2:plL ds=true)(hu:X.A.units+1+lY ds<AN)(hk:AQ .NotIn b=false:=by with_unfolding_all rfl):PTd X sd (.Compare a [.NotIn] [b] pos) (!ds.any λz=>deq z d):=
 fY (aDZ d ds p1 p2 hu) ha hb trivial hk λσ F H x u Q S q1 q2 k=>⟨Rep.mono S.sub q2,Rep.mono S.sub q1,k F H S<|Same.refl _⟩
variable {es:List D}
theorem RepL.atI{i:Int}(r:RepL K H ds xs)(h:L2.atI ds i=some d):∃v,L2.atI xs i=some v/\Rep K H d v:=by
 unfold L2.atI at h ⊢;rw[r.len];cases e:ixN ds.length i with
 |none=>rw[e] at h;cases h
 |some j=>rw[e] at h;exact r.get h
theorem xV{i:Int}(ha:PEd X sd a (.bor ds))(hb:PEd X sd b (.val<|.int i))(hd:atI ds i=some d)(hs:jW b):PEd X sd (.Subscript a b pos) (.val d):=.mk λσ F H S=>
 (aBN yO dH dH hs).to ((ha σ F H S).imp fun v H1 ⟨F1,S1,s1,q1⟩=>(hb σ F1 H1 S1).imp fun u H2 ⟨F2,S2,s2,q2⟩=>by
  obtain⟨p,xs,e1,hp,rl,_⟩:=ResOk.keep (r:=.bor ds) trivial q1 S2 s2;simp only[ResOk,Rep] at q2;obtain⟨w,hw,rw'⟩:=rl.atI hd
  exact⟨p,xs,i,w,e1,q2,.of hp,hw,F2,S2,s1.trans s2,rw'⟩)
noncomputable def aMM(c:Int)(k:Nat):Int:=(c%2147483647*48271+(k:Int)*(k:Int)*69621+7919)%2147483647
noncomputable def aOw(c:Int)(k:Nat):Int:=if c%2=1 then c / 2 else(aMM c k*aMM c k+16807*aMM c k+(k:Int))%2147483629
noncomputable def byT(w:AG):Bool:=w.params.followText "set-order"
noncomputable def insK(k:Nat)(ks:List Nat):List Nat:=ks.filter (λi=>decide<|i<k)++k::ks.filter (λi=>decide<|k<i)
noncomputable def aOy(led:Bool)(m mv:Nat)(ks:List Nat):BI:={mask:=m,place:=ks.toArray,dummies:= #[],finger:=0,led:=led,moves:=mv,plain:=true}
noncomputable def aMI(led:Bool)(ks:List Nat):BI:=if ks.length<5 then aOy led 7 0 ks else aOy led 31 1 ks
structure SmS(w:AG)(o:BF)(ks:List Nat):Prop where
 ex:∃ (es:List (Int×BA)) (ep:Nat),o={cls:=.type "set",dict:=none,data:=.set es.toArray ep (aMI (!byT w) ks)}/\es.map (·.1)=ks.map Int.ofNat/\∀e∈es,∃t,e.2=.int e.1 t
theorem aKk{α:Type}(l:List α)(p:Nat)(y:α):fS l.toArray p y=(l.take p++y::l.drop p).toArray:=by unfold fS;apply fH.mp;simp;exact eR<|by simp
noncomputable def aBQ:List Nat->List Nat->List Nat
 |ks,[]=>ks
 |ks,v::vs=>aBQ (insK v ks) vs
noncomputable abbrev yX(w:AG):BF:={cls:=.type "set",dict:=none,data:=.set #[] 0 (aMI (!byT w) [])}
theorem newK{E:BA->BB->Prop}(a:BA){Q₁:BA->BB->Prop}(h:Q₁ (.ref s.heap.objs.size) {s with heap:=s.heap.push (yX w)}):
  codeAny (AF prog w) A (.call (.builtin "set.__new__") ⟨[.type "set",a],[]⟩) (wants Q₁ E) s:=by
 refine codeAny_of_tree ?_;refine AA (m:=checkBuiltinCall "set.__new__" _) (wpAny_of_eq (F.newCall_set_1 a)<|AC ⟨plainId_quiet F.plain_set_new _,Av F.entry_set_new ?_⟩);rw[Around.under_plainId F.plain_set_new];unfold Builtin.«set.__new__» Builtin.Frozenset.newClass;have q:=sub_set_self;obtain⟨hp,g,d,tk,os⟩:=s;dsimp only
 wp_walk
 refine wpAny_askSetting<|AC ?_;dsimp only;simp only[newObj];refine AA<|wpAny_alloc (AC<|AC ?_);exact h
theorem aAb:isSubtype (.type "list") (.type "set")=pure false:=by rw[isSubtype_type];kernel_rfl
theorem aBk:isSubtype (.type "list") (.type "frozenset")=pure false:=by rw[isSubtype_type];kernel_rfl
noncomputable def rdQ(q:SQ):List Nat:=if q.1=6 then[] else if q.1=5 then[q.2.2.1.toNat] else if 7<=q.1 then[q.2.1.toNat] else aBQ [] [q.2.1.toNat,q.2.2.1.toNat]
noncomputable def ahQ(q:SQ)(bs:List Nat):List Nat:=if bs.contains q.2.1.toNat then aBQ [] (bs.filter (λb=> !decide (b=q.2.1.toNat))++rdQ q) else bs
noncomputable def bqQ(L:List SK)(look:List Nat):List Nat->List Nat
 |[]=>look
 |t::row=>ahQ (L.getD t An).1<|bqQ L look row
noncomputable def prQ(L:List SK)(look:List Nat):List Nat->List Nat
 |[]=>[]
 |t::row=>if(bqQ L look row).contains (L.getD t An).1.2.1.toNat then t::prQ L look row else prQ L look row
def gV(K:aA)(F0:Hp)(d:D):V->Hp->Prop:=λv F=>Rep K F0 d v/\Same F0 F
variable {es:List Expr}{d':D}{ls:List D}
theorem PEd.valP(h:PEd X sd e (.pr d ls)):PEd X sd e (.val<|.tup [d,.lst ls]):=.mk λσ F H S=>(h σ F H S).imp λv H' ⟨F',S',s,t,l,xs,y,e,ft,ry,n,q,rl,no⟩=>by obtain⟨S2,s2⟩:=S'.freeze q n no;refine⟨_,S2,s.trans s2, ?_⟩;show Rep _ _ _ _;simp only[Rep];refine⟨t,[y,.ref l],e,s2 _ _ ft,.cons (ry.mono s2)<|.one ?_⟩;simp only[Rep];exact⟨l,xs,rfl,bR,rl.mono s2⟩
theorem aFS(i:Nat){x:Str}{p p2:Pos}{x1}(hs:sd[i]? =some (.own l ls))(hx:PE X (.Name x p) (mU i))(h:PEd X sd e (.val d))(hE:E.rt (.pr d ls))
  (hst:AB [e, .Name x p] X.env=(false,eval e X.env)::AB [.Name x p] X.env:=by rfl) (hst2:AB [.Name x p] X.env=(false,eval (.Name x p) X.env)::AB [] X.env:=by rfl):PSd1 X sd (.Return (some<|.Tuple [e, .Name x p] x1 p2) pos) E:=.mk λσ F H S=>
 (xY (aHi (eF dH (eF hx pa_nil hst2) hst))).to ((h σ F H S).imp fun v H1 ⟨F1,S1,s1,q1⟩=>by
  obtain⟨o',h1,h2,n,xs,q,rl⟩:=S1.slots.get hs;refine⟨.ref l,by rw[h1,h2],dW<|fQ (show 2<=10000 by decide),λp hp=> ?_⟩;obtain⟨S2,s2⟩:=S1.lay (o:=.tup [v,.ref l]) hp trivial;have ne:l≠p:=cF q hp
  exact⟨.pr d ls,⟨_,S2.base,S2.sub,S2.smp,p,l,xs,v,rfl,bR,Rep.mono s2 q1,by rw[bK ne];exact n,by rw[bK ne];exact q,rl.mono s2,by simp[cH]⟩,hE⟩)
variable {ls:List BC}{nss:List (List Int)}
theorem StF.reX{z z':Slot}{o:Option V}(S:StF K H₀ F H σ sd)(hs:sd[i]? =some z)(ho:σ[i]? =some o)(keep:∀b ob,b∉gH z->H b=some ob->H' b=some ob)(sm:Smp H')(q:fO K F H' z' o)(nd:(gH z').Nodup)(no:∀a∈gH z',a∈gH z\/a∉cH sd):StF K H₀ F H' σ (sd.set i z'):=by
 have S0:=S.le<|jF sd i;have mz:∀a∈gH z,a∈cH sd:=λa ha=>tG.mpr ⟨z,cK hs,ha⟩
 refine⟨S.base,λb u e=> ?_,sm, ?_, ?_⟩
 ·refine keep b u (λhb=> ?_)<|S.sub _ _ e;have:=(S.slots.owns<|mz b hb).1;rw[e] at this;cases this
 ·have q1:SlotsOk K F H' (sd.set i .un) σ:=S0.slots.mono (Same.refl _) λa ha=>⟨(S0.slots.owns ha).1,λob e=>keep a ob (λhb=>lZ S.nd hs hb ha) e⟩
  have q2:=q1.set (z:=z') (o:=o) q i;rw[nW,qR ho] at q2;exact q2
 ·have:=jE (z:=z') i S0.nd (fun a ha=>by
   rcases no a ha with h|h
   ·exact .inl<|lZ S.nd hs h
   ·exact .inl λhm=>h ((jF sd i).own.subset hm)) nd
  rw[nW] at this;exact this.1
noncomputable def InD(K:aA)(F H:Hp):List BC->List (List D)->Prop
 |[],[]=>True
 |a::as,ds::dss=>(∃xs,H a=some (.lst xs)/\RepL K F ds xs)/\InD K F H as dss
 |_,_=>False
def GD(K:aA)(l:BC)(ls:List BC)(dss:List (List D)):V->Hp->Hp->Prop:=λv F H=>v=.ref l/\H l=some (.lst<|ls.map V.ref)/\InD K F H ls dss
noncomputable def oD(K:aA)(l:BC)(ls:List BC)(dss:List (List D)):Slot:=.ox (l::ls)<|GD K l ls dss
theorem mZ{α:Type}(f:α->D)(h:∀a,pl (f a)=true):∀l:List α,plL (l.map f)=true
 |[]=>rfl
 |a::l=>by show(pl (f a)&&plL (l.map f))=true;rw[h a,mZ f h l];rfl
theorem kS{α:Type}(f:α->D)(n:Nat)(h:∀a,dep (f a)<=n):∀l:List α,lY (l.map f)<=n
 |[]=>bU _
 |a::l=>Nat.max_le.mpr ⟨h a,kS f n h l⟩
def WsOk(p:Int×Int)(o:Option (List<|List Int)):Prop:=∀L,o=some L->0<L.length/\L.length<=100/\∀ws∈L,Fil p ws
structure aOM(p:Int×Int)(w:List (Option (List<|List Int))):Prop where
 len:w.length=(qL p).length
 ok:∀o∈w,WsOk p o
theorem aDO(ds:List D)(k:Nat):DL.cutD ds (some (k:Int)) none=ds.drop k:=by
 unfold DL.cutD;rw[HT.sIx_nat,HT.sIx_none]
 by_cases q:k<=ds.length
 ·rw[aMh q];exact eR<|by simp
 ·rw[Nat.min_eq_right<|by omega,aBA<|aO _,aBA<|by omega];simp
theorem pY{k:Nat}{p2:Pos}(ha:PEd X sd a (.bor ds))(hb:PEd X sd b (.val<|.int (k:Int))):PEd X sd (.Subscript a (.Slice (some b) none none p2) pos) (.own<|ds.drop k):=
 PEd.cast (aCf (ol:=some (k:Int)) (oh:=none) ha hb trivial) (by rw[aDO])
structure aOL(n:Nat)(τ:List Nat):Prop where
 len:τ.length=n
 lt:∀b∈τ,b<n
 mem:∀b,b<n->b∈τ
 nd:τ.Nodup
structure SqN(n:Nat)(q:SQ):Prop where
 k10:q.1<10
 i0:0<=q.2.1/\q.2.1<n
 j0:0<=q.2.2.1/\q.2.2.1<n
noncomputable def exO(l:BC)(o:BF):HO:=.ext λh=>h.get? l=some o
theorem aCa{h:BE}{o:BF}(g:h.get? l=some o):ObjOk P w H h l (exO l o):=⟨g,⟨o,g⟩,λ_ _ q k=>k _ q⟩
def TDo(P:AD)(w:AG)(F:Hp)(l:BC)(o:BF)(kvs:List (List Key×V)):Prop:=
 kvs.length<=AH/\(l==Ai)=false/\∃xs,KT F kvs xs/\∃es ep,o.ExactDict/\o.data=.dict es ep/\es.toList=xs.map (entryOfKey (tupleKind<|dJ P w))/\(xs.map (·.1)).Nodup
noncomputable def kD:Key->D
 |.inl i=>.int i
 |.inr x=>.str x
theorem aAk{K:aA}{F:Hp}:∀ {k:List Key}{xs:List V},RepL K F (k.map kD) xs->xs=k.map kV
 |[],xs,r=>by simpa only[gJ,RepL] using r
 |a::k,xs,r=>by
  rw[bB] at r;obtain⟨y,ys,rfl,q,rl⟩:=r.uncons;rw[aAk rl,bB];congr 1;cases a with
  |inl i=>simp only[kD,Rep] at q;exact q
  |inr x=>simp only[kD,Rep] at q;exact q
def Gt(P:AD)(w:AG)(K:aA)(l:BC)(ks:List (List Key))(ds:List D):V->Hp->Hp->Prop:=λv F H=>v=.ref l/\∃o xs,H l=some (exO l o)/\(∀v,o.data≠ .cell v)/\RepL K F ds xs/\ks.length=ds.length/\TDo P w F l o (ks.zip xs)
variable {ks:List (List Key)}
theorem aAK{o:BF}(h:Smp H)(a:BC):Smp (upd H a<|exO a o):=λb u e=>by
 by_cases z:b=a
 ·subst z;rw[bR] at e;cases e;trivial
 ·rw[bK z] at e;exact h _ _ e
noncomputable def nB(n:Nat)(lo hi k:Option Int):List Nat:=sliceRange (Aa lo hi k n).1 (Aa lo hi k n).2.1 (Aa lo hi k n).2.2
noncomputable def jO{α:Type}(l:List α)(lo hi k:Option Int):List α:=(nB l.length lo hi k).filterMap (l[·]?)
theorem aBu(n:Nat)(lo hi k:Option Int):(nB n lo hi k).length<=n:=by
 refine sliceRange_length_le _ _ _ _ (λhc=> ?_) λhc=> ?_<;>simp only[Aa] at hc ⊢
 ·simp only[hc,if_true]
  constructor
  ·cases lo with
   |none=>simp
   |some i=>dsimp only;omega
  ·cases hi with
   |none=>simp
   |some i=>dsimp only;omega
 ·simp only[hc,if_false]
  constructor
  ·cases lo with
   |none=>simp
   |some i=>dsimp only;omega
  ·cases hi with
   |none=>simp
   |some i=>dsimp only;omega
theorem aEd{α:Type}(l:List α)(lo hi k:Option Int):(jO l lo hi k).length<=l.length:=aQ (List.length_filterMap_le _ _)<|aBu _ _ _ _
theorem aDX{us:List BA}(r:Vals xs us)(lo hi k:Option Int):Vals (jO xs lo hi k) (jO us lo hi k):=by
 unfold jO;rw[r.length];generalize nB us.length lo hi k=is
 induction is with
 |nil=>exact .nil
 |cons i is ih=>
  rw[cT,cT];cases hx:xs[i]? with
  |none=>have hl:=zQ.mp hx;rw[eA<|by rw[<-r.length];exact hl];exact ih
  |some x=>obtain⟨u,hu,ru⟩:=r.get hx;rw[hu];exact .cons ru ih
theorem aFg(r:RepL K H ds xs)(lo hi k:Option Int):RepL K H (jO ds lo hi k) (jO xs lo hi k):=by
 unfold jO;rw[r.len];generalize nB ds.length lo hi k=is
 induction is with
 |nil=>exact .nil
 |cons i is ih=>
  rw[cT,cT];cases hx:ds[i]? with
  |none=>have hl:=zQ.mp hx;rw[eA (l:=xs)<|by rw[r.len];exact hl];exact ih
  |some x=>obtain⟨u,hu,ru⟩:=r.get hx;rw[hu];exact .cons ru ih
theorem aAf(its:List BA)(lo hi k:Option Int):slicePick its.toArray lo hi k=(jO its lo hi k).toArray:=by unfold slicePick jO nB;rw[aI];congr 1;refine congrFun (congrArg _ ?_) _;funext i;simp
theorem aEq{te:TE}{tl th ts:TO}{lo hi:Option Expr}{k:Expr}{p2:Pos}(he:PE X e te)(hl:PO X lo tl)(hu:PO X hi th)(hs:PO X (some k) ts):PE X (.Subscript e (.Slice lo hi (some k) p2) pos) (λσ H Q=>te σ H λx H1=>tl σ H1 λl H2=>th σ H2 λu H3=>ts σ H3 λz H4=>∃a xs,x=.ref a/\SqL X.K H4 a xs/\z≠some 0/\∀p,H4 p=none->Q (.ref p) (upd H4 p (.lst<|jO xs l u z))):=by
 intro pins s σ H Q I h;refine Subscript_<|thn (he pins s σ H _ I h) λv s1 ⟨x,H1,I1,r1,q1⟩=> ?_;refine wpAny_Slice<|thn (hl pins s1 σ H1 _ I1 q1) λvl s2 ⟨l,H2,I2,pl,q2⟩=>thn (hu pins s2 σ H2 _ I2 q2) λvu s3 ⟨u,H3,I3,pu,q3⟩=>thn (hs pins s3 σ H3 _ I3 q3) λvk s4 ⟨z,H4,I4,pk,q4⟩=> ?_;obtain⟨a,xs,rfl,hx,hz0,q⟩:=q4;have I5:Inv X pins σ H4 {s4 with heap:=s4.heap.push {cls:=.type "slice",data:=.fields #[vl,vu,vk]}}:=I4.kept (t':=s4.toks) λb ob q=>aC _ q
 cases r1;obtain⟨its,r,ht,hz⟩:=I5.list hx;have hlen:=r.length
 have hg:AE (AF X.prog X.w) X.A (getItem (.ref a)<|.ref s4.heap.objs.size) (EP X pins σ Q) X.xe {s4 with heap:=s4.heap.push {cls:=.type "slice",data:=.fields #[vl,vu,vk]}}:=by refine wpAny_getItem_list_slice ht.isList (Heap.IsSliceOf.new ..) pl pu pk hz0 ?_ (by rw[aI]<;>omega);rw[aAf];refine⟨.ref _,_,I5.laid (t':=s4.toks) (o:=.lst<|jO xs l u z) (λb ob q=>aC _ q) (aO _) ?_,rfl,q _ (I5.hok.fresh<|aO _)⟩;exact⟨aQ (aEd xs l u z) hz,_,0,aDX r l u z,aY _ rfl⟩
 show AE (AF X.prog X.w) X.A (subscriptTail e (.Slice lo hi (some k) p2) (.ref a)<|.ref s4.heap.objs.size) (EP X pins σ Q) X.xe {s4 with heap:=s4.heap.push {cls:=.type "slice",data:=.fields #[vl,vu,vk]}};exact tail_any (ops:=[.ref a,.ref s4.heap.objs.size]) ht.isList.typeIs slot_list_getitem.lookup hg (by with_unfolding_all rfl)
theorem aIe{lo hi:Option Expr}{k:Expr}{ol oh ok:Option Int}{p2:Pos}(ha:PEd X sd a (.bor ds))(hl:POd X sd lo ol)(hh:POd X sd hi oh)(hk:POd X sd (some k) ok)(h0:ok≠some 0):PEd X sd (.Subscript a (.Slice lo hi (some k) p2) pos) (.own<|jO ds ol oh ok):=.mk λσ F H S=>by obtain⟨tl,pl,kl⟩:=mD hl;obtain⟨th,ph,kh⟩:=mD hh;obtain⟨tk,pk,kk⟩:=mD hk;refine(aEq dH pl ph pk).to<|(ha σ F H S).imp λv H1 ⟨F1,S1,s1,q1⟩=>kl σ F1 H1 S1 _ λF2 H2 S2 s2=>kh σ F2 H2 S2 _ λF3 H3 S3 s3=>kk σ F3 H3 S3 _ λF4 H4 S4 s4=> ?_;obtain⟨l,xs,rfl,hl',rl,_⟩:=ResOk.keep (r:=.bor ds) trivial q1 S4<|(s2.trans s3).trans s4;refine⟨l,xs,rfl,.of hl',h0,λp hp=> ?_⟩;obtain⟨S5,fp,no⟩:=S4.layO (xs:=jO xs ol oh ok) hp;exact⟨F4,S5,((s1.trans s2).trans s3).trans s4,p,_,rfl,fp,bR,aFg rl ol oh ok,no⟩
noncomputable def numQ(p:Int×Int)(ws:List Int):Nat:=(aOv (2^p.1.toNat) ws).toNat
def LtAt(A:BD)(s:BB)(x y:BA)(b:Bool):Prop:=∀ (prog:AD) (w:AG) (E:BA->BB->Prop) (Q:BA->BB->Prop),Q (.bool b) s->AE (AF prog w) A (richCompare .Lt x y) Q E s
inductive aMo(A:BD)(s:BB)(fin:Bool):List (BA×BA)->Bool->Prop
 |nil:aMo A s fin [] fin
 |eq {x y:BA}{r:List (BA×BA)}{b:Bool}:SeqAt.EqAt A.in1 s x y true->aMo A s fin r b->aMo A s fin ((x,y)::r) b
 |lt {x y:BA}{r:List (BA×BA)}{b:Bool}:SeqAt.EqAt A.in1 s x y false->LtAt A.in1 s x y b->aMo A s fin ((x,y)::r) b
section
open PySem.SeqAt
open PySem.AutoSeq1 (wpAny_loadPart')
open PySem.MeetsSeq PySem.MeetsSeq2 PySem.MeetsSeq3
end
mutual
noncomputable def dlt:D->D->Bool
 |.int a,.int b=>decide<|a<b
 |.tup a,.tup b=>aNf a b
 |_,_=>false
noncomputable def aNf:List D->List D->Bool
 |[],[]=>false
 |[],_::_=>true
 |_::_,[]=>false
 |d::ds,e::es=>if deq d e=true then aNf ds es else dlt d e
end
mutual
noncomputable def aOD:D->D->Bool
 |.int _,.int _=>true
 |.tup a,.tup b=>aMW a b
 |_,_=>false
noncomputable def aMW:List D->List D->Bool
 |[],_=>true
 |_::_,[]=>true
 |d::ds,e::es=>aOD d e&&aMW ds es
end
section
variable {prog:AD}{w:AG}{A:BD}{E:BA->BB->Prop}{s:BB}
open HT
end
theorem aJp(d:D)(ds:List D)(p1:pl d=true)(p2:plL ds=true)(hu:X.A.units+1+lY ds<AN):OpR X (AK .In) (λx y H Q=>Rep X.K H (.lst ds) y/\Rep X.K H d x/\Q (.bl<|ds.any λz=>deq z d) H):=by
 intro pins s σ H x y v u Q I rx ry h;obtain⟨hl,hd,k⟩:=h;obtain⟨a,xs,its,rfl,rfl,rl,rv,ht⟩:=iB I.hok hl ry
 have hat:∀ (j:Nat) (w:BA),its[j]? =some w->∃z v,ds[j]? =some z/\xs[j]? =some v/\Rep X.K H z v/\RelV v w:=λj w hw=>by
  have hj:j<its.length:=(bF.mp hw).1;have hx:j<xs.length:=by rw[Vals.length rv];exact hj
  have hd:j<ds.length:=by rw[<-rl.len];exact hx
  obtain⟨v,hv,rz⟩:=rl.get (i:=j) (d:=ds[j]) (by simp[hd])
  exact ⟨ds[j],v,by simp [hd],hv,rz,by
   have:=rv.get hv;obtain⟨w',hw',r⟩:=this;rw[hw] at hw';cases hw'
   exact r⟩
 have dc:=λw:BA=>Classical.propDecidable (∃ (j:Nat) (z:D),its[j]? =some w/\ds[j]? =some z/\deq z d=true)
 refine SeqAt.in_listAt (λw=> @decide _<|dc w) ht (λw hw=> ?_) ⟨.bl _,H,I,rfl, ?_⟩
 ·by_cases q:∃ (j:Nat) (z:D),its[j]? =some w/\ds[j]? =some z/\deq z d=true
  ·obtain⟨j,z,e1,e2,e3⟩:=q;obtain⟨z',v,f1,f2,f3,f4⟩:=hat j w e1;rw[e2] at f1;cases f1;have: @decide _ (dc w)=true:=by rw[decide_eq_true_eq];exact⟨j,z,e1,e2,e3⟩
   rw[this,<-e3];exact rZ I.hok z (qU p2 e2) p1 f3 hd f4 rx (by have:=mX e2;show X.A.units+1+dep z<AN;omega)
  ·have hw':w∈its:=by simpa using hw
   obtain⟨j,hj,rfl⟩:=gR hw';obtain⟨z,v,f1,f2,f3,f4⟩:=hat j its[j] (by simp[hj])
   have e3:deq z d=false:=by
    cases h:deq z d with
    |false=>rfl
    |true=>exact(q ⟨j,z,by simp[hj],f1,h⟩).elim
   have: @decide _ (dc its[j])=false:=by rw[decide_eq_false_iff_not];exact q
   rw[this,<-e3];exact rZ I.hok z (qU p2 f1) p1 f3 hd f4 rx (by have:=mX f1;show X.A.units+1+dep z<AN;omega)
 ·have e:its.toArray.any (λw=> @decide _<|dc w)=ds.any λz=>deq z d:=by
   rw[dZ,aJt,eY,eY]
   constructor
   ·rintro⟨w,hw,q⟩;rw[decide_eq_true_eq] at q;obtain⟨j,z,e1,e2,e3⟩:=q;exact⟨z,cK e2,e3⟩
   ·rintro⟨z,hz,e3⟩;obtain⟨j,hj,rfl⟩:=gR hz;have hi:j<its.length:=by rw[<-Vals.length rv,rl.len];exact hj
    exact⟨its[j],dE hi,by rw[decide_eq_true_eq];exact⟨j,ds[j],by simp[hi],by simp[hj],e3⟩⟩
  rw[e];exact k
theorem aFr(ha:PEd X sd a (.val d))(hb:PEd X sd b (.val<|.lst ds))(p1:pl d=true)(p2:plL ds=true)(hu:X.A.units+1+lY ds<AN)(hk:AQ .In b=false:=by with_unfolding_all rfl):PTd X sd (.Compare a [.In] [b] pos) (ds.any λz=>deq z d):=
 fY (aJp d ds p1 p2 hu) ha hb trivial hk λσ F H x u Q S q1 q2 k=>⟨Rep.mono S.sub q2,Rep.mono S.sub q1,k F H S<|Same.refl _⟩
noncomputable def otN(m:Int)(n:Nat):Nat->Int×List Nat
 |0=>(m,[])
 |t+1=>((otN m n t).1 / 5,(otN m n t).2++[((otN m n t).1 / 5%(n:Int)).toNat])
noncomputable def otQ(c:Int)(k n:Nat):List Nat:=(otN (aOw c<|k+40) n (aOw c (k+40)%5).toNat).2
noncomputable def shp{α β:Type}(n:β)(g:α->β):List Bool->List α->List β
 |[],_=>[]
 |false::m,as=>n::shp n g m as
 |true::m,[]=>n::shp n g m []
 |true::m,a::as=>g a::shp n g m as
def GO(K:aA)(m:List Bool)(l:BC)(ls:List BC)(dss:List (List D)):V->Hp->Hp->Prop:=λv F H=>v=.ref l/\H l=some (.lst<|shp V.non V.ref m ls)/\InD K F H ls dss
noncomputable def wN(h:BE)(a:BC):BE:=h.update a λo=>{o with data:=.freed}
noncomputable def vP(h:BE)(S:List BC):BE:=S.foldl wN h
theorem aAc(h:BE){a b:BC}(ne:b≠a):(wN h a).get? b=h.get? b:=cV _ _<|Ne.symm ne
theorem aBz(h:BE)(a:BC):(wN h a).get? a=none:=by
 cases h;simp only[wN,Heap.update,Heap.get?,Array.getElem?_modify,if_true]
 split
 ·rfl
 ·rename_i hx;generalize hq:aEK _ _=q at hx ⊢;cases q with
  |none=>rfl
  |some o=>obtain⟨o',h1,h2⟩:=iI.mp hq;exact(hx _ _ _<|by rw[<-h2]).elim
theorem lB:∀ {S:List BC}{h:BE}{a:BC},a∉S->(vP h S).get? a=h.get? a
 |[],_,_,_=>rfl
 |b::S,h,a,hn=>by show(vP (wN h b) S).get? a=_;rw[lB λz=>hn<|aH _ z,aAc h (λz:a=b=>hn<|z▸aM)]
theorem yV:∀ {S:List BC}{h:BE}{a:BC},a∈S->(vP h S).get? a=none
 |b::S,h,a,hm=>by
  show(vP (wN h b) S).get? a=none
  by_cases hs:a∈S
  ·exact yV hs
  ·have e:a=b:=(aG.mp hm).resolve_right hs;subst e;rw[lB hs,aBz]
theorem qD{S:List BC}{h:BE}{a:BC}{o:BF}(q:(vP h S).get? a=some o):a∉S/\h.get? a=some o:=by
 have hn:a∉S:=λz=>by rw[yV z] at q;cases q
 exact⟨hn,by rw[lB hn] at q;exact q⟩
theorem wH{h base base':BE}:∀ {l:List Env},h.FunFrames base l->(∀b∈l.filterMap (·.frame),base'.get? b=none)->h.FunFrames base' l
 |[],_,_=>trivial
 |env::rest,hl,hb=>by
  obtain⟨hk,⟨L,o,hf,hn,ho,hd⟩,hr⟩:=hl;have e:(env::rest).filterMap (·.frame)=L::rest.filterMap (·.frame):=by rw[cT,hf]
  rw[e] at hb;exact⟨hk,⟨L,o,hf,hb L aM,ho,hd⟩,wH hr λb hm=>hb b<|aH _ hm⟩
theorem uV{h:BE}{a:BC}{o:HO}(x:ObjOk P w H h a o):∃ob,h.get? a=some ob:=by
 cases o with
 |lst xs=>obtain⟨_,_,_,_,e⟩:=x;exact⟨_,e⟩
 |tup xs=>obtain⟨_,_,_,ob,e,_⟩:=x;exact⟨_,e⟩
 |dK kvs=>obtain⟨_,_,_,_,o,_,_,e,_⟩:=x;exact⟨_,e⟩
 |dT kvs=>obtain⟨_,_,_,_,o,_,_,e,_⟩:=x;exact⟨_,e⟩
 |set S n=>obtain⟨o,_,_,_,e,_⟩:=x;exact⟨_,e⟩
 |ins C dx fs=>obtain⟨_,_,_,e,_⟩:=x;exact⟨_,e⟩
 |own y=>obtain⟨_,e⟩:=x;exact⟨_,e⟩
 |xd fs=>obtain⟨_,⟨_,_,_,e,_⟩,_⟩:=x;exact⟨_,e⟩
 |rng lo hi=>obtain⟨_,_,_,e⟩:=x;exact⟨_,e⟩
 |frz ob u=>obtain⟨e,_⟩:=x;exact⟨_,e⟩
 |tbl ps=>exact⟨_,(show h.get? a=some _ from x)⟩
 |met f y=>exact⟨_,(show h.get? a=some _ from x)⟩
 |ext φ=>obtain⟨_,⟨_,e⟩,_⟩:=x;exact⟨_,e⟩
structure Exc(h0 h:BE)(H:Hp)(a T:BC)(cls:BA):Prop where
 free:H a=none
 new:h0.get? a=none
 freeT:H T=none
 newT:h0.get? T=none
 obj:∃oe vs oT ts a0,h.get? a=some oe/\(oe.cls=cls/\vs[0]? =some a0)/\oe.data=.fields vs/\vs[1]? =some (.ref T)/\T≠a/\h.get? T=some oT/\oT.data=.fields ts/\ts[3]? =some .none
noncomputable def CX1(P:AD)(w:AG)(cls:BA):CXT:=λouter H s E e s'=>∃a T H',e=.ref a/\s'.os=s.os/\AllBare s'.gens/\Un (frs outer) [] H H' s.heap s'.heap/\HOk P w H' s'.heap/\Exc s.heap s'.heap H' a T cls/\E (.ref a) (some a) H'
variable {h':BE}{a T:BC}{cls a0:BA}{S:List BC}{E:XK}
theorem aII(I:Inv X pins σ H s)(hex:X.ex=[])(hst:X.stack=X.env::X.outer/\X.env.frame=some X.env.locals)(hS:∀b∈S,H b=none/\X.s₀.heap.get? b=none)(ha:a∈S)(L:Heap.LeftW (vP s.heap<|frs X.stack++S) X.stack a cls a0 s.heap h')(hE:E (.ref a) (some a) H):
  CX1 X.prog X.w cls X.outer X.H₀ X.s₀ E (.ref a) {s with heap:=h'}:=by
 obtain⟨k1,k2,⟨oe,vs,T,oT,ts,he,hc,hd,h1,hnT,hTe,hT,hdT,h3⟩,k4⟩:=L
 have fr:frs X.stack=X.env.locals::frs X.outer:=by unfold frs;rw[hst.1,cT,hst.2]
 have out:∀b o,X.s₀.heap.get? b=some o->b∉frs X.outer->b∉frs X.stack++S:=λb o q hb hm=>by
  rcases aW.mp hm with hm|hm
  ·rw[fr] at hm
   rcases aG.mp hm with e|hm
   ·have:=I.ok.above;have lt:=aK q;rw[e] at lt;exact absurd lt<|sA.mpr this
   ·exact hb hm
  ·rw[(hS b hm).2] at q;cases q
 have stay:∀b o,b∉frs X.stack++S->s.heap.get? b=some o->h'.get? b=some o:=λb o hb q=>k1 b o (by rw[lB hb];exact q)
 have nex:∀b,b∉X.ex:=λb hb=>by rw[hex] at hb;cases hb
 have slot:∀b o,X.s₀.heap.get? b=some o->X.H₀ b=none->b∈frs X.outer->∃sl,h'.get? b=some {o with slots:=sl}:=λb o q n hb=>by obtain⟨sl,q1⟩:=I.base.slot b o q n hb<|nex b;obtain⟨_,o',q2,nf⟩:=I.ok.funs.mem hb;rw[q] at q2;cases q2;obtain⟨sl2,q3⟩:=k4 b _ q1 nf;exact⟨sl2,q3⟩
 have tr:∀b u,H b=some u->b∉frs X.stack++S:=λb u e hm=>by
  rcases aW.mp hm with hm|hm
  ·rw[I.env0.frf b hm] at e;cases e
  ·rw[(hS b hm).1] at e;cases e
 have Tn:s.heap.get? T=none\/T∈S:=by
  by_cases hm:T∈frs X.stack++S
  ·rcases aW.mp hm with hm|hm
   ·obtain⟨_,o,q,nf⟩:=k2.mem hm;rw[hT] at q;cases q;exact(nf ts hdT).elim
   ·exact .inr hm
  ·rw[lB hm] at hnT;exact .inl hnT
 refine⟨a,T,H,rfl,I.os,I.bare,⟨λb o q n hb _=>stay b o (out b o q hb) (I.base.keep b o q n hb<|nex b),λb o q n hb _=>slot b o q n hb,λb o q n _=>I.base.free b o q n<|nex b,λb o q _=> ?_,I.base.tups,I.base.frzs,I.base.tbls⟩,λb u e=> ?_,⟨(hS a ha).1,(hS a ha).2, ?_, ?_,oe,vs,oT,ts,a0,he,hc,hd,h1,hTe,hT,hdT,h3⟩,hE⟩
 ·by_cases hb:b∈frs X.outer
  ·obtain⟨sl,q2⟩:=slot b o q (I.ok.frf b hb) hb;exact⟨_,q2⟩
  ·obtain⟨o1,q1⟩:=I.base.there b o q<|nex b;exact⟨o1,stay b o1 (out b o q hb) q1⟩
 ·refine(I.hok b u e).stay (λc v hc q=>stay c v ?_ q) (λ_ q=>q) λ_ _ q=>q
  rcases hc with z|z
  ·rw[z];exact tr b u e
  ·exact tr c _ z
 ·rcases Tn with q|q
  ·cases g:H T with
   |none=>rfl
   |some u=>obtain⟨ob,q2⟩:=uV<|I.hok T u g;rw[q] at q2;cases q2
  ·exact(hS T q).1
 ·rcases Tn with q|q
  ·cases g:X.s₀.heap.get? T with
   |none=>rfl
   |some o=>obtain⟨o1,q1⟩:=I.base.there T o g<|nex T;rw[q] at q1;cases q1
  ·exact(hS T q).2
end DL
namespace DL
open PySem PySem.Spec PySem.Calls PySem.W PyProof.Rows Builtin Builtin.Getset_descriptor Builtin.ObjectAttr
variable {prog:AD}{w:AG}{A:BD}{E:BA->BB->Prop}{h:BE}{g:Array GenState}{d:Drawn}{t:Nat}{os:OsState}{a C:BC}{K:Frag}
def ExA(a C:BC)(h:BE):Prop:=∃o,h.get? a=some o/\o.cls=.ref C
theorem ExA.type{M:Model}(I:ExA a C h):Looks M h (typeOf<|.ref a) (.ref C):=by obtain⟨o,h1,h2⟩:=I;exact h2▸(Looks.ld h1).andThen .now
theorem aKG{tp:BA}{R:Result->BB->Prop}{s:BB}(X:K.In s.heap)(I:ExA a C s.heap)(hm:mroIn K C (.type "object")=some true)
  (h:R (.ok (.ret<|.ref C)) s):codeAny (AF prog w) A (.call (.builtin "getset_descriptor.__get__") ⟨[.builtin "object.__class__",.ref a,tp],[]⟩) R s:=by
 obtain⟨hh,g,dr,t,os⟩:=s;have L0:=I.type (M:=AF prog w);have L1:=looks_mroIn (M:=AF prog w) X hm;refine Ab KF.slot_gs.plain KF.entry_gs<|KF.slot_gs.check _ _ _ _ _ _ _ _ KF.type_class (KF.args_gs _ _ _) ?_;unfold Builtin.«getset_descriptor.__get__» descrGet;rw[dga_obj];refine AA<|AC ?_;unfold descrGetter descrCheckInstance descrNameAndClass isInstance;simp only[KF.owner_class]
 repeat lk
 refine⟨Code.quiet_builtin _<|by decide+kernel,Av KF.entry_class ?_⟩;unfold Builtin.«object.__class__» shownTypeOf
 repeat lk
 exact h
theorem aFT{tk:Tok}{Q:Fin->BB->Prop}(X:K.In h)(I:ExA a C h)(ha:findIn K (.ref C) "__class__"=some (some<|.builtin "object.__class__"))(hm:mroIn K C (.type "object")=some true)
  (hq:Q (.done (.ret<|.ref C)) ⟨h,g,d,t,os⟩):AE (AF prog w) A (Builtin.«object.__getattribute__» ⟨[.ref a,.str "__class__" tk],[]⟩) Q E ⟨h,g,d,t,os⟩:=by
 have hT5:(⟨h,g,d,t,os⟩:BB).TypeIs (.builtin "object.__class__") "getset_descriptor":=F.typeOf_object_class;have f5:=F.typeOf_object_class;have f6:=F.slot_gs_get.lookup;have f7:=F.slot_gs_set.lookup;have L1:=looks_findIn (M:=AF prog w) X ha;obtain⟨o,hx,hc⟩:=id I
 repeat (any_goals (first|assumption|(with_reducible refine AS hx ?_;rw[hc])|with_reducible refine L1.at ?_|wp_step))
 refine aKG X I hm ?_
 repeat (any_goals (first|assumption|wp_step))
theorem aAv{M:Model}{nameV:BA}{Q:Unit->BB->Prop}(X:K.In h)(I:ExA a C h)(hs:subIn K (.ref C) (.type "BaseException")=some true)(hq:Q () ⟨h,g,d,t,os⟩):
  AE M A (checkBuiltinCall "BaseException.__getattribute__" ⟨[.ref a,nameV],[]⟩) Q E ⟨h,g,d,t,os⟩:=by
 have hk:builtinKind "BaseException.__getattribute__"=some .slot:=by decide+kernel
 have hsplit:splitId "BaseException.__getattribute__"=some ("BaseException","__getattribute__"):=by decide+kernel
 have L1:=looks_subIn (M:=M) X hs;obtain⟨o,hx,hc⟩:=id I;have ha:=F.args_bexc_ga (.ref a) nameV;simp only[checkBuiltinCall,hk,hsplit];refine AA ?_;unfold isInstance
 repeat (first|(with_reducible refine AS hx ?_;rw[hc])|with_reducible refine L1.at ?_|wp_step)
 exact hq
theorem aIu{tk:Tok}{R:Result->BB->Prop}(X:K.In h)(I:ExA a C h)(ha:findIn K (.ref C) "__class__"=some (some<|.builtin "object.__class__"))(hm:mroIn K C (.type "object")=some true)(hs:subIn K (.ref C) (.type "BaseException")=some true)
  (hq:R (.ok (.ret<|.ref C)) ⟨h,g,d,t,os⟩):codeAny (AF prog w) A (.call (.builtin "BaseException.__getattribute__") ⟨[.ref a,.str "__class__" tk],[]⟩) R ⟨h,g,d,t,os⟩:=
 Ab F.attr_ValueError.ga.plain F.entry_bexc_ga (aAv X I hs<|aFT X I ha hm hq)
theorem aNB{tk:Tok}{Q:BA->BB->Prop}(X:K.In h)(I:ExA a C h)(ha:findIn K (.ref C) "__class__"=some (some<|.builtin "object.__class__"))(hm:mroIn K C (.type "object")=some true)(hs:subIn K (.ref C) (.type "BaseException")=some true)
  (hg:findIn K (.ref C) "__getattribute__"=some (some<|.builtin "BaseException.__getattribute__")) (hn:findIn K (.ref C) "__getattr__"=some none)
  (hq:Q (.ref C) ⟨h,g,d,t,os⟩):AE (AF prog w) A (getAttrBy (.ref a) (.str "__class__" tk) false) Q E ⟨h,g,d,t,os⟩:=by
 have f3:=F.attr_ValueError.ga.bind<|.ref a;have hx2:(Value.builtin "BaseException.__getattribute__"==Value.builtin "object.__getattribute__")=false:=by decide+kernel
 have hx1:(onTheHeap (Value.ref C)&&Value.builtin "BaseException.__getattribute__"==Value.builtin "object.__getattribute__")=false:=by rw[hx2];rfl
 have L1:=looks_findIn (M:=AF prog w) X hg;have L2:=looks_findIn (M:=AF prog w) X hn;obtain⟨o,hx,hc⟩:=id I
 repeat (any_goals (first|assumption|(with_reducible refine AS hx ?_;rw[hc])|with_reducible refine L1.at ?_|with_reducible refine L2.at ?_|wp_step))
 refine aIu X I ha hm hs ?_
 repeat (any_goals (first|assumption|wp_step))
theorem aIa{Q:Option BA->BB->Prop}(X:K.In h)(I:ExA a C h)(ha:findIn K (.ref C) "__class__"=some (some<|.builtin "object.__class__"))(hm:mroIn K C (.type "object")=some true)(hs:subIn K (.ref C) (.type "BaseException")=some true)
  (hg:findIn K (.ref C) "__getattribute__"=some (some<|.builtin "BaseException.__getattribute__")) (hn:findIn K (.ref C) "__getattr__"=some none)
  (hq:Q (some<|.ref C) ⟨h,g,d,t+1,os⟩):AE (AF prog w) A (getAttr? (.ref a) "__class__") Q E ⟨h,g,d,t,os⟩:=by
 unfold getAttr? getAttrBy?
 repeat (any_goals (first|assumption|with_reducible apply aNB X I ha hm hs hg hn|wp_step))
structure aGq(K:Frag)(C:BC):Prop where
 ha:findIn K (.ref C) "__class__"=some (some<|.builtin "object.__class__")
 hm:mroIn K C (.type "object")=some true
 hs:subIn K (.ref C) (.type "BaseException")=some true
 hg:findIn K (.ref C) "__getattribute__"=some (some<|.builtin "BaseException.__getattribute__")
 hn:findIn K (.ref C) "__getattr__"=some none
 hc:(clsIn K C).isSome=true
theorem aFG(x:aGq K C):KitX K (.ref a) (.ref C) (ExA a C) where
 ty:=λ_ _ _ I=>I.type
 it:=λ_ _ X _=>by
  obtain⟨cdD,hcD⟩:=kR.mp x.hc;unfold clsIn at hcD
  split at hcD
  ·rename_i c' d' cd' sl' ho;intro A' Q' E' s' k q;unfold isType loadHead;exact AA (wpAny_loadPart (k _ _<|X _ _ ho)<|AC q)
  ·cases hcD
 ne:=λh tp dd its n sl X htp=>by
  obtain⟨cdD,hcD⟩:=kR.mp x.hc;refine Bool.eq_false_iff.mpr λq=> ?_
  have e:C=tp:=Value.ref.inj<|beq_iff_eq.mp q;subst e;unfold clsIn at hcD
  split at hcD
  ·rename_i c' d' cd' sl' ho;have z:=(X _ _ ho).symm.trans htp;cases z
  ·cases hcD
 ca:=λ{prog w A E Q s} X I k=>by obtain⟨h,g,d,t,os⟩:=s;exact aIa X I x.ha x.hm x.hs x.hg x.hn k
end DL
namespace DL
open PySem PySem.Spec PyProof.Rows L2
noncomputable def qB:List BA:=[.type "ValueError",.type "Exception",.type "BaseException",.type "object"]
variable {X:Cx}{sd:List Slot}{e a b c:Expr}{es:List Expr}{pos:Pos}{d:D}{ds:List D}{E:fW}
structure PEx(X:Cx)(sd:List Slot)(e:Expr):Prop where
 run:∀ (σ:St) (F H:Hp),StF X.K X.B₀ F H σ sd->wE X e σ H (λ_ _=>False)
theorem aDV(h:PEx X sd e)(hs:Ad e none pos.line X.env=pure false:=by rfl):PSd1 X sd (.Expr e pos) E:=.mk λσ F H S=>(qY dH hs).to<|(h.run σ F H S).imp λ_ _ z=>z.elim
theorem aFY(h:PEx X sd e):PSd1 X sd (.Return (some e) pos) E:=.mk λσ F H S=>(xY dH).to<|(h.run σ F H S).imp λ_ _ z=>z.elim
noncomputable def spX(K:aA)(n:Nat)(C:List D->Prop):Sp:=λvs H _ E=>vs.length=n/\Smp H/\∃ds,RepL K H ds vs/\C ds/\∀a H',Same H H'->Smp H'->E (.ref a) (some a) H'
structure aNX(P:AD)(w:AG)(K:aA)(mg:Str->Option BA)(base:BE)(x:Str)(k n:Nat)(C:List D->Prop)(cls:BA)(dvs:List V)(dws:List BA):Prop where
 ex:∃ (f:BC) (fd:AJ) (ps:List Str),mg x=some (.ref f)/\bS K (.ref f)=true/\Binds K fd ps dws/\Vals dvs dws/\FnOk P w K mg base (CX1 P w cls) k f fd ps (spX K n C)
theorem aIK{CX:CXT}{k:Nat}{f:BC}{fd:AJ}{ps:List Str}{sp:Sp}{dvs:List V}{dws:List BA}{Ex:XK}{pins:List (BC×BF)}{σ:St}{H:Hp}{s:BB}{Q:VK}{us:List BA}{vs:List V}(F:FnOk X.prog X.w X.K X.mg X.base CX k f fd ps sp)(hr:Room k X.A)(hb:Binds X.K fd ps dws)(hd:Vals dvs dws)
  (I:Inv X pins σ H s) (r:Vals vs us) (h:sp (vs++dvs) H Q Ex) (hx:∀e s',CX X.stack H s Ex e s'->X.xe e s'):AE (AF X.prog X.w) X.A (call (.ref f) us) (EP X pins σ Q) X.xe s:=by
 have r2:Vals (vs++dvs) (us++dws):=r.append hd;have hl:(us++dws).length=ps.length:=by rw[<-r2.length];exact F.len _ _ _ _ h
 refine wpAny_call<|Ag (F.run X.A X.stack s H ⟨us,[]⟩ (us++dws) (vs++dvs) Q Ex hr I.env0 (hb s us I.kIn hl) r2 h) λr s' hq=> ?_;cases r with
 |error e=>exact hx e s' hq
 |ok fl=>
  cases fl with
  |ret u=>exact I.after hq
  |next=>exact False.elim hq
  |brk=>exact False.elim hq
  |cont=>exact False.elim hq
theorem aIw{cls:BA}{pins:List (BC×BF)}{σ:St}{F H:Hp}{s s':BB}{e:BA}(hex:X.ex=[])(I:Inv X pins σ H s)(S:StF X.K X.B₀ F H σ sd)(h:CX1 X.prog X.w cls X.stack H s (λ_ _ H'=>Same H H'/\Smp H') e s'):
  ∃a T H',e=.ref a/\Inv X pins σ H' s'/\StF X.K X.B₀ F H' σ sd/\Exc X.s₀.heap s'.heap H' a T cls/\∀p∈X.pn++pins,p.1≠a/\p.1≠T:=by
 obtain⟨a,T,H',rfl,os,bare,un,hok,x,sH,smH⟩:=h;have I2:Inv X pins σ H' s':=I.call' os un hok bare (λb z=>absurd z<|by simp)
 have fr:∀b,s.heap.get? b=none->X.s₀.heap.get? b=none:=λb q=>by
  cases g:X.s₀.heap.get? b with
  |none=>rfl
  |some o=>obtain⟨o1,q1⟩:=I.base.there b o g (λhb=>by rw[hex] at hb;cases hb);rw[q] at q1;cases q1
 have nw:∀b,s.heap.get? b=none->∀p∈X.pn++pins,p.1≠b:=λb q p hp z=>by have:=(I.pin p hp).1;rw[z,q] at this;cases this
 exact⟨a,T,H',rfl,I2,⟨S.base,S.sub.trans sH,smH,S.slots.mono (Same.refl _) λl hl=>⟨(S.slots.owns hl).1,λob e=>sH _ _ e⟩,S.nd⟩,⟨x.free,fr a x.new,x.freeT,fr T x.newT,x.obj⟩,λp hp=>⟨nw a x.new p hp,nw T x.newT p hp⟩⟩
variable {pins:List (BC×BF)}{σ:St}{F H:Hp}{s:BB}{h':BE}{S:List BC}
theorem tP{h:BE}{c:BC}{v:Option BA}(k:h.UpToSlots h')(z:h.IsCell c v):h'.IsCell c v:=by
 obtain⟨o,ho,hd⟩:=z;obtain⟨sl,q⟩:=k c o ho λvs e=>by rw[hd] at e;cases e
 exact⟨_,q,hd⟩
theorem aCq(I:Inv X pins σ H s)(hS:∀b∈S,H b=none/\X.s₀.heap.get? b=none/\∀p∈X.pn++pins,p.1≠b)(k1:Heap.StaysIn (vP s.heap<|frs X.stack++S) h')(k4:s.heap.UpToSlots h'):Inv X pins σ H {s with heap:=h'}:=by
 have stay:∀b o,b∉frs X.stack++S->s.heap.get? b=some o->h'.get? b=some o:=λb o hb q=>k1 b o (by rw[lB hb];exact q)
 have out:∀b o,X.s₀.heap.get? b=some o->b∉X.fs->b∉frs X.stack++S:=λb o q hb hm=>by
  rcases aW.mp hm with hm|hm
  ·rcases aG.mp (I.stkSub b hm) with e|hm
   ·have lt:=aK q;rw[e] at lt;exact absurd lt<|sA.mpr I.ok.above
   ·exact hb hm
  ·rw[(hS b hm).2.1] at q;cases q
 have slot:∀b o,X.s₀.heap.get? b=some o->X.H₀ b=none->b∈X.fs->b∉X.ex->∃sl,h'.get? b=some {o with slots:=sl}:=λb o q n hb hx=>by obtain⟨sl,q1⟩:=I.base.slot b o q n hb hx;obtain⟨_,o',q2,nf⟩:=I.ok.funs.mem hb;rw[q] at q2;cases q2;obtain⟨sl2,q3⟩:=k4 b _ q1 nf;exact⟨sl2,q3⟩
 have tr:∀b u,H b=some u->b∉frs X.stack++S:=λb u e hm=>by
  rcases aW.mp hm with hm|hm
  ·rw[I.env0.frf b hm] at e;cases e
  ·rw[(hS b hm).1] at e;cases e
 obtain⟨m,hn,hl⟩:=id I.loc;refine⟨I.ok,I.os,I.bare,⟨λb o q n hb hx=>stay b o (out b o q hb)<|I.base.keep b o q n hb hx,slot,I.base.free,λb o q hx=> ?_,I.base.tups,I.base.frzs,I.base.tbls⟩,⟨m,k4.ns hn,λi x v e1 e2 e3=> ?_⟩,λx c e=> ?_,I.free,I.freeC,λp hp=> ?_,λb u e=> ?_,I.len⟩
 ·by_cases hb:b∈X.fs
  ·obtain⟨sl,q2⟩:=slot b o q (I.ok.frf b hb) hb hx;exact⟨_,q2⟩
  ·obtain⟨o1,q1⟩:=I.base.there b o q hx;exact⟨o1,stay b o1 (out b o q hb) q1⟩
 ·obtain⟨u,r,q⟩:=hl i x v e1 e2 e3;refine⟨u,r, ?_⟩
  rcases q with q|⟨k,c,e,z⟩
  ·exact .inl q
  ·exact .inr ⟨k,c,e,tP k4 z⟩
 ·obtain⟨v,z⟩:=I.cell x c e;exact⟨v,tP k4 z⟩
 ·obtain⟨e,n,ne,nf,d⟩:=I.pin p hp;refine⟨stay p.1 p.2 (λhm=> ?_) e,n,ne,nf,d⟩
  rcases aW.mp hm with hm|hm
  ·rcases aG.mp (I.stkSub _ hm) with z|z
   ·exact ne z
   ·exact nf z
  ·exact(hS _ hm).2.2 p hp rfl
 ·refine(I.hok b u e).stay (λc v hc q=>stay c v ?_ q) (λ_ q=>q) λ_ _ q=>q
  rcases hc with z|z
  ·rw[z];exact tr b u e
  ·exact tr c _ z
theorem aLl{ξ:BA->BB->Prop}{pn:List (BC×BF)}(I:Inv X pins σ H s)(S:StF X.K X.H₀ F H σ sd)(hpn:pn=X.pn++pins):Inv {X with H₀:=F,B₀:=F,hB:=λ_ _ e _=>e,xe:=ξ,pn:=pn} [] σ H s:=by
 have n0:∀b,F b=none->X.H₀ b=none:=λb n=>by
  cases q:X.H₀ b with
  |none=>rfl
  |some u=>rw[S.base _ _ q] at n;cases n
 have fn:∀b,H b=none->F b=none:=λb n=>S.sub.free n
 subst hpn
 refine ⟨⟨I.ok.mod,I.ok.kind,I.ok.glob,I.ok.blt,I.ok.above,I.ok.inj,I.ok.has,I.ok.cab,I.ok.hd,I.ok.frames,I.ok.stk,I.ok.exf,fun b o e=>⟨(I.ok.bs b o e).1,fn b (I.bs b o e).2⟩,I.ok.bsz,I.ok.noex,I.ok.exfs,I.ok.funs,fun b hb=> ?_⟩,I.os,I.bare,
  ⟨λb o q n hb hx=>I.base.keep b o q (n0 b n) hb hx,λb o q n hb hx=>I.base.slot b o q (n0 b n) hb hx,λb o q n hx=>I.base.free b o q (n0 b n) hx,I.base.there,λb xs e=>S.sub _ _ e,λb o u e=>S.sub _ _ e,λb ps e=>⟨#[],by rw[S.sub _ _ e];simp⟩⟩,I.loc,I.cell,I.free,I.freeC,λp hp=> ?_,I.hok,I.len⟩
 ·obtain⟨_,o,q,_⟩:=I.ok.funs.mem hb;exact fn b<|I.base.free b o q (I.ok.frf b hb) λhx=>I.ok.exfs b hx hb
 ·rw[dC] at hp;exact I.pin p hp
theorem aKw{ξ:BA->BB->Prop}{pn:List (BC×BF)}{pins':List (BC×BF)}{σ':St}{H':Hp}{s':BB}(I0:Inv X pins σ H s)(S:StF X.K X.H₀ F H σ sd)(hpn:pn=X.pn++pins)(I:Inv {X with H₀:=F,B₀:=F,hB:=λ_ _ e _=>e,xe:=ξ,pn:=pn} pins' σ' H' s'):Inv X pins σ' H' s':=by
 subst hpn;have nf:∀b o,X.s₀.heap.get? b=some o->X.H₀ b=none->b∉X.ex->F b=none:=λb o q n hx=>S.sub.free<|I0.base.free b o q n hx
 refine⟨I0.ok,I.os,I.bare,⟨λb o q n hb hx=>I.base.keep b o q (nf b o q n hx) hb hx,λb o q n hb hx=>I.base.slot b o q (nf b o q n hx) hb hx,λb o q n hx=>I.base.free b o q (nf b o q n hx) hx,I.base.there,λb xs e=>I.base.tups b xs<|S.base _ _ e,λb o u e=>I.base.frzs b o u<|S.base _ _ e,λb ps e=>I.base.tbls b ps<|S.base _ _ e⟩,I.loc,I.cell,I.free,I.freeC,λp hp=>I.pin p<|bH _ hp,I.hok,I.len⟩
theorem aFH{m:Str->Option BA}{j:Nat}{n:Str}{v:Option BA}{t':Nat}(I:Inv X pins σ H s)(hN:X.N.Nodup)(hj:X.N[j]? =some n)(hk:X.env.scope.names.lookup n=some .local)(hn:s.heap.Ns X.env.locals m)
  (hl:∀ (i:Nat) (x:Str) (v:V),X.N[i]? =some x->σ[i]? =some (some v)->Vis X.env.scope x->∃u,RelV v u/\aOo X.env s.heap m x u) (hn':h'.Ns X.env.locals (λx=>if x=n then v else m x)) (hs:Heap.SameBut X.env.locals s.heap h'):Inv X pins (σ.set j none) H {s with heap:=h',toks:=t'}:=by
 have cne:=I.cne;have hiσ:j<σ.length:=by rw[I.len];exact(bF.mp hj).1
 refine⟨I.ok,I.os,I.bare,⟨λb o e n hb hx=> ?_,λb o e n hb hx=> ?_,I.base.free,λb o e hx=> ?_,I.base.tups,I.base.frzs,I.base.tbls⟩,⟨_,hn',λi y v' e1 e2 e3=> ?_⟩,λy c e=> ?_,I.free,I.freeC,λp hp=> ?_,λb ob e=> ?_,by rw[aJF];exact I.len⟩
 ·exact(hs.2 b (bG<|aX (aK e) I.ok.above)).trans<|I.base.keep b o e n hb hx
 ·obtain⟨sl,e1⟩:=I.base.slot b o e n hb hx;exact⟨sl,(hs.2 b (bG<|aX (aK e) I.ok.above)).trans e1⟩
 ·obtain⟨o',e1⟩:=I.base.there b o e hx;exact⟨o',(hs.2 b (bG<|aX (aK e) I.ok.above)).trans e1⟩
 ·by_cases hi:i=j
  ·subst hi;rw[mR hiσ] at e2;cases e2
  ·rw[iZ<|Ne.symm hi] at e2;obtain⟨u',r',q⟩:=hl i y v' e1 e2 e3;refine⟨u',r', ?_⟩
   rcases q with⟨k,e⟩|⟨k,c,e,z⟩
   ·refine .inl ⟨k, ?_⟩;have:y≠n:=λe=>hi (uQ hN e1<|e▸hj)
    simp[this,e]
   ·exact .inr ⟨k,c,e,z.sameBut hs<|cne y c e⟩
 ·obtain⟨w',z⟩:=I.cell y c e;exact⟨w',z.sameBut hs<|cne y c e⟩
 ·obtain⟨e,n,ne,nf,d⟩:=I.pin p hp;exact⟨(hs.2 p.1 ne).trans e,n,ne,nf,d⟩
 ·refine(I.hok b ob e).stay (λc w' hc q=>(hs.2 c ?_).trans q) (λ_ q=>q) λ_ _ q=>q
  rintro rfl
  rcases hc with z|hc
  ·have:=I.free;rw[z,e] at this;cases this
  ·rw[I.free] at hc;cases hc
variable {a T:BC}{cls:BA}{M:Model}{A:BD}{Ex:BA->BB->Prop}
structure aHt(X:Cx)(pins:List (BC×BF))(σ:St)(H:Hp)(s:BB)(a T:BC)(cls fl:BA):Prop where
 inv:Inv X pins σ H s
 fa:H a=none/\X.s₀.heap.get? a=none/\∀p∈X.pn++pins,p.1≠a
 fT:H T=none/\X.s₀.heap.get? T=none/\∀p∈X.pn++pins,p.1≠T
 obj:∃oe vs oT ts a0,s.heap.get? a=some oe/\(oe.cls=cls/\vs[0]? =some a0)/\oe.data=.fields vs/\vs[1]? =some (.ref T)/\T≠a/\s.heap.get? T=some oT/\oT.data=.fields ts/\ts[3]? =some fl
theorem aAx(h:aHt X pins σ H s a T cls fl):∀b∈[a,T],H b=none/\X.s₀.heap.get? b=none/\∀p∈X.pn++pins,p.1≠b:=λb hb=>by
 simp only[aG,bD,or_false] at hb
 rcases hb with rfl|rfl
 ·exact h.fa
 ·exact h.fT
variable {a:Expr}
noncomputable def spS(K:aA)(n:Nat)(G:V->Hp->Prop)(C:List D->Prop):Sp:=λvs H _ E=>vs.length=n/\Smp H/\∃v us ds,vs=v::us/\G v H/\RepL K H ds us/\C ds/\∀a H',Same H H'->Smp H'->E (.ref a) (some a) H'
structure aNZ(P:AD)(w:AG)(K:aA)(mg:Str->Option BA)(base:BE)(x:Str)(k n:Nat)(G:V->Hp->Prop)(C:List D->Prop)(cls:BA):Prop where
 ex:∃ (f:BC) (fd:AJ) (ps:List Str),mg x=some (.ref f)/\bS K (.ref f)=true/\Binds K fd ps []/\FnOk P w K mg base (CX1 P w cls) k f fd ps (spS K n G C)
structure PSh(X:Cx)(sd:List Slot)(e:Expr)(G:V->Hp->Prop):Prop where
 run:∀ (σ:St) (F H:Hp),StF X.K X.B₀ F H σ sd->wE X e σ H λv H'=>∃F',StF X.K X.B₀ F' H' σ sd/\Same F F'/\G v F'
structure ShCls(K:aA)(mg:Str->Option BA)(C:BC):Prop where
 cl:Cls K C
 nZ:aCk K C "size"
 nS:aCk K C "stock"
 nM:aCk K C "made"
 mgC:mg "Shelf"=some (.ref C)
theorem Inv.reB{H':Hp}(I:Inv X pins σ H s)(hn:∀b,H b=none->H' b=none)(h0:Same X.B₀ H')(ok:HOk X.prog X.w H' s.heap):Inv X pins σ H' s:=by
 refine⟨I.ok,I.os,I.bare,⟨I.base.keep,I.base.slot,λb u e n hx=>hn b<|I.base.free b u e n hx,I.base.there,λb xs e=>h0 _ _<|X.hB _ _ e trivial,λb u xs e=>h0 _ _<|X.hB _ _ e trivial,λb ps e=>⟨#[], ?_⟩⟩,I.loc,I.cell,hn _ I.free,λx c e=>hn _<|I.freeC x c e,λp hp=> ?_,ok,I.len⟩
 ·rw[h0 _ _<|X.hB _ _ e trivial];simp
 ·obtain⟨e,n,r⟩:=I.pin p hp;exact⟨e,hn _ n,r⟩
def ShD(K:aA)(C:BC)(fs:List (Str×D))(m:BC):V->Hp->Prop:=λv F=>∃ (x dx:BC) (od:BF) (mA:Str->Option BA),v=.ref x/\F x=some (exO x<|mK C dx)/\F dx=some (exO dx od)/\dx≠x/\(∀h:BE,h.get? dx=some od->h.Ns1 dx mA)/\(∀f d,fs.lookup f=some d->∃y u,mA f=some u/\RelV y u/\Rep K F d y)/\mA "made"=some (.ref m)/\mA "book_up_to"=none
def mdO(K:aA)(m:BC)(ks:List Key)(ds:List D)(F H:Hp):Prop:=∃xs,H m=some (.dK<|ks.zip xs)/\ks.length=ds.length/\RepL K F ds xs
noncomputable def VP:R->Prop
 |.val _=>True
 |.pr _ _=>True
 |_=>False
variable {K:aA}(Z:Lent K)
noncomputable def spLR(n:Nat)(C:Z.α->List D->R->Prop):Sp:=λvs H Q _=>vs.length=n/\∃ (v:V) (us:List V) (F:Hp) (a:Z.α) (ds:List D) (r:R),vs=v::us/\Same F H/\(∀b,b∉Z.own a->H b=F b)/\Smp H/\fO K F H (Z.sl a) (some v)/\(Z.own a).Nodup/\RepL K F ds us/\C a ds r/\VP r/\
 ∀v' H',(∃F',Same F F'/\Same F' H'/\Smp H'/\fO K F' H' (Z.sl a) (some v)/\ResOk K F' H' [Z.sl a] r v')->Q v' H'
def vlC(C:Z.α->List D->D->Prop):Z.α->List D->R->Prop:=λa ds r=>∃d,r=.val d/\C a ds d
noncomputable def spLV(n:Nat)(C:Z.α->List D->D->Prop):Sp:=spLR Z n<|vlC Z C
noncomputable def shL(K:aA)(C:BC)(fs:List (Str×D))(J:List Key->List D->Prop):Lent K where
 α:=BC×BC
 ad a:=a.1
 own a:=[a.2]
 G a v F H:=v=.ref a.1/\ShD K C fs a.2 v F/\∃ks ds,J ks ds/\mdO K a.2 ks ds F H
 hv h:=h.1
structure aNV(P:AD)(w:AG)(K:aA)(Z:Lent K)(mg:Str->Option BA)(base:BE)(x:Str)(k n:Nat)(C:Z.α->List D->D->Prop):Prop where
 ex:∃ (f:BC) (fd:AJ) (ps:List Str),mg x=some (.ref f)/\bS K (.ref f)=true/\Binds K fd ps []/\FnOk P w K mg base CX0 k f fd ps (spLV Z n C)
structure PSo(X:Cx)(sd:List Slot)(e:Expr)(Z:Lent X.K):Prop where
 run:∀ (σ:St) (F H:Hp),StF X.K X.B₀ F H σ sd->wE X e σ H λv H'=>∃F' a,StF X.K X.B₀ F' H' σ sd/\Same F F'/\fO X.K F' H' (Z.sl a) (some v)/\(Z.own a).Nodup/\∀l∈Z.own a,l∉cH sd
theorem StF.layW{H₀:Hp}{p:BC}{o:HO}(S:StF K H₀ F H σ sd)(hp:H p=none)(ho:aMq o):StF K H₀ F (upd H p o) σ sd/\F p=none/\p∉cH sd:=by
 have fp:F p=none:=S.sub.free hp;refine⟨⟨S.base,λb u e=> ?_,λb u e=> ?_,S.slots.mono (Same.refl _) λl hl=> ?_,S.nd⟩,fp,λhl=> ?_⟩
 ·rw[bK<|cF e fp];exact S.sub _ _ e
 ·by_cases h:b=p
  ·subst h;rw[bR] at e;cases e;exact ho
  ·rw[bK h] at e;exact S.smp _ _ e
 ·obtain⟨n,ys,q,_⟩:=S.slots.owns hl;have hne:l≠p:=cF q hp;exact⟨n,λys e=>by rw[bK hne];exact e⟩
 ·obtain⟨n,ys,q,_⟩:=S.slots.owns hl;rw[hp] at q;cases q
variable {s':BB}{tg iter:Expr}{Old:BC->Prop}
structure ExcO(Old:BC->Prop)(h:BE)(H:Hp)(a T:BC)(cls:BA):Prop where
 free:H a=none
 new:¬ Old a
 freeT:H T=none
 newT:¬ Old T
 obj:∃oe vs oT ts a0,h.get? a=some oe/\(oe.cls=cls/\vs[0]? =some a0)/\oe.data=.fields vs/\vs[1]? =some (.ref T)/\T≠a/\h.get? T=some oT/\oT.data=.fields ts/\ts[3]? =some .none
def Ent(X:Cx):BC->Prop:=λb=>∃o,X.s₀.heap.get? b=some o
def GI(K:aA)(l:BC)(ks:List Key)(ls:List BC)(dss:List (List D)):V->Hp->Hp->Prop:=λv F H=>v=.ref l/\H l=some (.dK (ks.zip<|ls.map V.ref))/\ks.length=ls.length/\InD K F H ls dss
noncomputable def oI(K:aA)(l:BC)(ks:List Key)(ls:List BC)(dss:List (List D)):Slot:=.ox (l::ls)<|GI K l ks ls dss
theorem RepL.rep{K:aA}{H:Hp}{ds:List D}{xs:List V}(r:RepL K H ds xs):∀k:Nat,RepL K H (bL k ds).flatten (bL k xs).flatten
 |0=>.nil
 |k+1=>by rw[eO,eO,fZ,fZ];exact r.app<|RepL.rep r k
theorem aIX{k:Nat}(ha:PEd X sd a (.bor ds))(hb:PEd X sd b (.val<|.int (k:Int)))(hk:k<=1000)(hz:ds.length*k<=1000):PEd X sd (.BinOp a .Mult b pos) (.own (bL k ds).flatten):=
 rP aLM ha hb trivial λσ F H v u Q S q1 q2 kk=>by simp only[ResOk,Rep] at q2;subst q2;obtain⟨l,xs,rfl,hl,rl,_⟩:=q1;refine⟨l,(k:Int),xs,rfl,rfl,hl,by omega,by omega,by rw[rl.len,cD,AM];omega,λp hp=> ?_⟩;rw[cD];obtain⟨S2,fp,no⟩:=S.layO (xs:=(bL k xs).flatten) hp;exact kk _ F _ S2 (Same.refl _) ⟨p,_,rfl,fp,bR,rl.rep k,no⟩
def GW(K:aA)(m:List Bool)(l0 l:BC)(ls:List BC)(dss:List (List D)):V->Hp->Hp->Prop:=λv F H=>v=.ref l0/\H l0=some (.lst [.ref l,.int 0])/\H l=some (.lst<|shp V.non V.ref m ls)/\InD K F H ls dss
noncomputable abbrev Wnt:=List<|Option Int
noncomputable abbrev Exs:=List<|List Int×Wnt
structure EOk(p:Int×Int)(E:Exs):Prop where
 fil:∀x∈E,x.1∈qL p
 len:∀x∈E,x.2.length=p.2.toNat
 wd:∀x∈E,∀b w,x.2.getD b none=some w->0<=w/\w<((2^p.1.toNat:Nat):Int)
structure GOk(n:Nat)(E:Exs)(t:Nat)(G:List (List Int)×List Wnt):Prop where
 nd:G.1.Nodup
 ln:G.1.length=G.2.length
 mem:∀f,f∈G.1↔∃i,i<t/\(E.getD i ([],[])).1=f
 wl:∀u∈G.2,u.length=n
 has:∀i,i<t->∀b w,b<n->(E.getD i ([],[])).2.getD b none=some w->(G.2.getD (G.1.idxOf (E.getD i ([],[])).1) []).getD b none=some w
 from_:∀f∈G.1,∀b w,b<n->(G.2.getD (G.1.idxOf f) []).getD b none=some w->∃i,i<t/\(E.getD i ([],[])).1=f/\(E.getD i ([],[])).2.getD b none=some w
structure Xk34(K:aA)(mg:Str->Option BA)(CN:BC):Prop where
 xc:aGq K CN
 ex:oM K CN qB "ValueError.__new__"=true
 le:∃C:BC,mg "LeastError"=some (.ref C)/\gC K (.ref CN) (.ref C)=some true
 nw:mg "NoWish"=some (.ref CN)/\aV K (.ref CN) (.ref CN)=some true
 ve:mg "ValueError"=none/\aV K (.ref CN) (.type "ValueError")=some true
 nc:∃C:BC,mg "NoChange"=some (.ref C)/\aV K (.ref CN) (.ref C)=some false
 nt:∃C:BC,mg "NoText"=some (.ref C)/\aV K (.ref CN) (.ref C)=some false
 nd:∃C:BC,mg "NoWindow"=some (.ref C)/\aV K (.ref CN) (.ref C)=some false
 tg:∃C:BC,mg "TooGreat"=some (.ref C)/\aV K (.ref CN) (.ref C)=some false
structure DOk(L:List (Nat×Int))(T:List Nat×List (List Int)):Prop where
 nd:T.1.Nodup
 ln:T.1.length=T.2.length
 mem:∀b,b∈T.1↔∃w,(b,w)∈L
 val:∀b∈T.1,∀w,w∈T.2.getD (T.1.idxOf b) []↔(b,w)∈L
 le:T.2.length<=L.length/\∀l∈T.2,l.length<=L.length
theorem aFP{bs:List Bool}{its:List BA}{i:Nat}{v:BA}(r:Vals (bs.map V.bl) its)(h:its[i]? =some v):∃b,bs[i]? =some b/\v=.bool b:=by
 have hi:i<its.length:=(bF.mp h).1;have hl:=r.length;rw[aD] at hl;have hb:i<bs.length:=by omega
 obtain⟨u,h1,h2⟩:=r.get (i:=i) (x:=.bl bs[i]) (by simp[hb]);rw[h] at h1;cases h1;exact⟨bs[i],by simp[hb],h2⟩
theorem aBs(bs:List Bool):((cI bs.length).all λi=>(bs[i]?).getD true)=bs.all id:=by
 apply dZ.mpr;simp only[bJ,cE,id_eq]
 constructor
 ·intro h b hb;obtain⟨i,hi,rfl⟩:=gR hb;have:=h i hi;simpa[hi] using this
 ·intro h i hi;have:=h bs[i]<|dE hi;simpa[hi] using this
theorem aEu(hc:X.calm=true):jK X (.builtin "all") (λxs H Q=>∃ (a:BC) (bs:List Bool),xs=[.ref a]/\SqL X.K H a (bs.map V.bl)/\Q (.bl<|bs.all id) H):=by
 intro pins s σ H xs us Q I r h;obtain⟨a,bs,rfl,ha,q⟩:=h;obtain⟨u,rfl,ru⟩:=mG r;cases ru;obtain⟨its,rv,p,hz⟩:=I.list ha;have hl:=rv.length;rw[aD] at hl;have isl:s.heap.IsList a its.toArray:=p.isList;have alt:a<s.heap.objs.size:=by obtain⟨o,ho,_⟩:=isl;exact aK ho
 refine call_all_walk<|Ap isl ?_;refine⟨s.heap.objs.size,[s.heap.objs.size,a],[s.heap.objs.size],its.toArray.size,_,_,λi=>(bs[i]?).getD true,rfl,Walks.list (A:=X.A.in1) (I.ok.hd hc) _ a (bG alt) its.toArray,⟨⟨_,aY _ rfl,rfl,rfl⟩,isl.push _⟩,λi v s' Q' E' hP hQ=> ?_,λh' tk hk=> ?_⟩
 ·obtain⟨b,e,rfl⟩:=aFP rv (by simpa using hP);simp only[e,Option.getD_some] at hQ;exact AU hQ
 ·have e:((cI its.toArray.size).all λi=>(bs[i]?).getD true)=bs.all id:=by rw[aI,<-hl];exact aBs bs
  rw[e]
  exact ⟨.bl (bs.all id),H,I.kept (t':=tk) fun b o g=>hk b o (fun z=>by
   have z:b=s.heap.objs.size:=by simpa using z
   exact absurd (aK g) (by rw[z];exact eZ _)) (aC _ g),rfl,q⟩
theorem RepL.bls{K:aA}{H:Hp}:∀ {bs:List Bool}{xs:List V},RepL K H (bs.map D.bl) xs->xs=bs.map V.bl
 |[],xs,r=>by simpa only[gJ,RepL] using r
 |n::ns,xs,r=>by rw[bB] at r;obtain⟨y,ys,rfl,a,rl⟩:=r.uncons;simp only[Rep] at a;rw[a,RepL.bls rl];rfl
theorem aCm{p:Pos}{bs:List Bool}(hg:Gl X "all")(hm:X.mg "all"=none)(ha:PEd X sd e (.bor<|bs.map D.bl))(hc:X.calm=true:=by rfl)(hst:AB [e] X.env=(false,eval e X.env)::AB [] X.env:=by rfl):PEd X sd (.Call (.Name "all" p) [e] [] pos) (.val (.bl<|bs.all id)):=
 jN (he:=hst) (aEu hc) hg hm boot_all (aB ha aN trivial hst) λσ F H vs Q S q k=>by
  cases q with
  |cons q1 q2=>cases q2;obtain⟨p,xs,rfl,hp,rl,_⟩:=q1;exact⟨p,bs,rfl,.of (by rw[<-rl.bls];exact hp),k _ F H S (Same.refl _)<|by simp only[ResOk,Rep]⟩
noncomputable abbrev Ch:=Nat×Nat×List Nat
noncomputable def wcQ(row:List Nat)(c:Ch):List Nat:=row.take c.1++c.2.2++row.drop (c.1+c.2.1)
noncomputable def aOI(L:List SK)(row:List Nat):Int:=aMF<|aML L row
noncomputable def aOK(p:Int×Int)(L:List SK)(row:List Nat)(o:Option (List Nat)):List (List Int):=(qL p).map λws=>match o with
 |none=>aMX p L row ws
 |some l=>l.map λj=>(aMX p L row ws).getD j 0
noncomputable def winB(row:List Nat)(c:Ch):Bool:=decide<|1<=c.2.1/\c.1+c.2.1<=row.length
noncomputable def hoQ(p:Int×Int)(L:List SK)(row:List Nat)(c:Ch)(o:Option (List Nat)):Bool:=winB row c&&(decide (aOI L c.2.2<aOI L ((row.drop c.1).take c.2.1))&&decide (aOK p L (wcQ row c) o=aOK p L row o))
def kU(L:List SK)(row:List Nat):Prop:=∀t∈row,t<L.length
structure Chn(p:Int×Int)(L:List SK)(o:Option (List Nat))(row:List Nat)(cs:List Ch)(rs:List (List Nat)):Prop where
 len:rs.length=cs.length+1
 hd:rs.getD 0 []=row
 st:∀i,i<cs.length->hoQ p L (rs.getD i []) (cs.getD i (0,0,[])) o=true/\rs.getD (i+1) []=wcQ (rs.getD i []) (cs.getD i (0,0,[]))
 ok:∀r∈rs,kU L r/\r.length<=8+9*cs.length
 pc:∀c∈cs,kU L c.2.2/\c.2.2.length<=9
theorem aNL{G K:Prop}(h:K->G)(k:K):G:=h k
section
variable {prog:AD}{w:AG}{κ:Type}[DecidableEq κ](knd:KeyKind prog w κ)
variable {knd}
variable {A:BD}{E:BA->BB->Prop}{s:BB}
end
structure HK(P:AD)(w:AG)(κ:Type)[DecidableEq κ] where
 kind:HeapKind P w κ
 rel:Hp->κ->BC->Prop
 mono:∀ {F F':Hp}{k:κ}{a:BC},Same F F'->rel F k a->rel F' k a
 ok:∀ {H:Hp}{h:BE}{k:κ}{a:BC},HOk P w H h->rel H k a->kind.is h k a
 room:∀ {A:BD},A.units+2<AN->kind.room A.in1
 dat:κ->D
 key:∀ {K:aA}{F:Hp}{k:κ}{v:V},Rep K F (dat k) v->∃a,v=.ref a/\rel F k a
 back:∀ {K:aA}{F:Hp}{k:κ}{a:BC},rel F k a->Rep K F (dat k) (.ref a)
inductive R2k(F:Hp):List (List Key)->List V->Prop
 |nil:R2k F [] []
 |cons {k:List Key}{b:BC}{ks:List (List Key)}{vs:List V}:F b=some (.tup<|k.map kV)->R2k F ks vs->R2k F (k::ks) (.ref b::vs)
section
variable {P:AD}{w:AG}{κ:Type}[DecidableEq κ](hk:HK P w κ)
abbrev KG(F:Hp):List (κ×V)->List (κ×BC×BA)->Prop:=Paired λp q=>p.1=q.1/\hk.rel F p.1 q.2.1/\RelV p.2 q.2.2
def TG(K:aA)(F:Hp)(l:BC)(o:BF)(ks:List κ)(ds:List D):Prop:=
 ks.length=ds.length/\ks.length<=AH/\(l==Ai)=false/\ks.Nodup/\∃ (vs:List V) (xs:List (κ×BC×BA)) (es:Array DictEntry) (ep:Nat),RepL K F ds vs/\KG hk F (ks.zip vs) xs/\o.ExactDict/\o.data=.dict es ep/\es.toList=xs.map (entryOfKey hk.kind)/\(xs.map (·.1)).Nodup
variable {hk}{K:aA}{F F' H:Hp}{l:BC}{o:BF}{ks:List κ}{ds:List D}
end
section
variable {P:AD}{w:AG}{κ:Type}[DecidableEq κ]
def GG(hk:HK P w κ)(K:aA)(l:BC)(ks:List κ)(ds:List D):V->Hp->Hp->Prop:=λv F H=>v=.ref l/\∃o,H l=some (exO l o)/\TG hk K F l o ks ds
variable {hk:HK P w κ}{K:aA}{H₀ F H:Hp}{σ:St}{sd:List Slot}{i:Nat}{l:BC}{ks:List κ}{ds:List D}{o:BF}
end
section
variable {X:Cx}{sd:List Slot}{e a b c tg iter:Expr}{es:List Expr}{pos:Pos}{d:D}{ds:List D}{κ:Type}[DecidableEq κ]{hk:HK X.prog X.w κ}{ks:List κ}{k:κ}{E:fW}{l:BC}
structure PDc(X:Cx)(sd:List Slot)(e:Expr){κ:Type}[DecidableEq κ](hk:HK X.prog X.w κ)(ks:List κ)(ds:List D):Prop where
 get:∀ (σ:St) (F H:Hp),StF X.K X.B₀ F H σ sd->wE X e σ H λv H1=>∃F1 l,StF X.K X.B₀ F1 H1 σ sd/\Same F F1/\v=.ref l/\∀F2 H2,StF X.K X.B₀ F2 H2 σ sd->Same F1 F2->∃o,H2 l=some (exO l o)/\TG hk X.K F2 l o ks ds
end
structure LyOk(K:aA)(F H:Hp)(p:Int)(L:Int->List D)(kvs:List (Key×V))(ls:List BC):Prop where
 live:∃ (lk:List Int) (dss:List (List D)),lk.Nodup/\lk.length=ls.length/\InD K F H ls dss/\(∀k,p<k->mM kvs (.inl k)=mM (lk.zip<|ls.map V.ref) k)/\(∀ (n:Nat) (k:Int),lk[n]? =some k->p<k/\dss[n]? =some (L k))/\∀k,p<k->k∉lk->L k=[]
 cur:(mM kvs (.inl p)=none/\L p=[])\/∃v,mM kvs (.inl p)=some v/\Rep K F (.lst<|L p) v
namespace S45
variable {T:Type}[DecidableEq T](n:Nat)(pr:Nat->Int)(beh:Nat->T->T)(t0:T)
noncomputable abbrev Ent(T:Type):=Int×List Nat×T
noncomputable abbrev Lay(T:Type):=Int->List (List Nat×T)
noncomputable def tabQ(row:List Nat):T:=row.foldl (λt k=>beh k t) t0
noncomputable def prQ(row:List Nat):Int:=(row.map pr).sum
noncomputable def put(t:Int)(row:List Nat)(tab:T):Nat->Lay T->Lay T
 |0,ly=>ly
 |k+1,ly=>λj=>if j=t+pr k then put t row tab k ly j++[(row++[k],beh k tab)] else put t row tab k ly j
noncomputable def one(t:Int)(s:List (Ent T)×Lay T)(e:List Nat×T):List (Ent T)×Lay T:=if e.2∉s.1.map (λx=>x.2.2)/\s.1.length<=500 then(s.1++[(t,e.1,e.2)],put pr beh t e.1 e.2 n s.2) else s
noncomputable def lay0:Lay T:=λj=>if j=0 then[([],t0)] else[]
noncomputable def run:Nat->List (Ent T)×Lay T
 |0=>([],lay0 t0)
 |t+1=>((run t).2 t).foldl (one n pr beh t)<|run t
structure Ok(t:Int)(rest:List (List Nat×T))(s:List (Ent T)×Lay T):Prop where
 ent:∀e∈s.1,0<=e.1/\e.1<=t/\e.1=prQ pr e.2.1/\(∀k∈e.2.1,k<n)/\e.2.2=tabQ beh t0 e.2.1
 nd:(s.1.map λx=>x.2.2).Nodup
 ly:∀ (j:Int) (x:List Nat×T),x∈s.2 j->j=prQ pr x.1/\(∀k∈x.1,k<n)/\x.2=tabQ beh t0 x.1/\(x.1=[]\/∃r k,x.1=r++[k]/\(prQ pr r,r,tabQ beh t0 r)∈s.1)
 par:∀ (i:Nat) (e:Ent T),s.1[i]? =some e->(e.2.1=[]/\i=0)\/∃r k i',e.2.1=r++[k]/\i'<i/\s.1[i']? =some (prQ pr r,r,tabQ beh t0 r)
 ch:∀e∈s.1,∀k,k<n->(e.2.1++[k],beh k e.2.2)∈s.2 (e.1+pr k)
 done:∀ (j:Int) (x:List Nat×T),j<=t->x∈s.2 j->(j=t/\x∈rest)\/(∃e∈s.1,e.2.2=x.2/\e.1<=j)\/500<(s.1.filter λe=>decide<|e.1<=j).length
 sub:∀x∈rest,x∈s.2 t
 le:s.1.length<=501
variable {n pr beh t0}
variable (n pr beh)
variable {n pr beh}
end S45
end DL
namespace DL
open PySem PySem.Spec PyProof.Rows L2
variable {p:Int×Int}{L:List SK}
noncomputable def aOC(p:Int×Int)(q:SQ):List Nat:=(qL p).map λws=>numQ p<|onQ p q ws
noncomputable def aKe(other one:List Nat):List Nat:=one.map λi=>other.getD i 0
noncomputable def tabN(p:Int×Int)(nb:List Nat):List (List Int):=nb.map λi=>(qL p).getD i []
noncomputable def aMv(p:Int×Int)(L:List SK)(k:Nat)(t:List (List Int)):List (List Int):=t.map<|onQ p (L.getD k An).1
noncomputable def prK(L:List SK)(k:Nat):Int:=(L.getD k An).2
noncomputable def st0(p:Int×Int):List Nat:=cI (qL p).length
noncomputable def nrQ(p:Int×Int)(L:List SK)(row:List Nat):List Nat:=row.foldl (λnb k=>aKe (aOC p (L.getD k An).1) nb)<|st0 p
open Classical in
noncomputable abbrev Bk:=S45.Ent (List<|List Int)
noncomputable def enD(e:Bk):D:=.tup [.int e.1,.tup<|aJO e.2.1,.tup<|e.2.2.map aGs]
structure BkOk(p:Int×Int)(L:List SK)(b:Int)(B:List Bk):Prop where
 len:B.length<=700
 ent:∀e∈B,e.1=S45.prQ (prK L) e.2.1/\e.1<=b/\kU L e.2.1/\e.2.1.length<=400/\e.2.2=S45.tabQ (aMv p L) (qL p) e.2.1
 nd:(B.map λe=>e.2.2).Nodup
namespace S45
end S45
noncomputable abbrev St45:=List Bk×S45.Lay (List<|List Int)
noncomputable def eD(x:List Nat×List (List Int)):D:=.tup [.tup<|aJO x.1,.tup<|x.2.map aGs]
end DL
namespace L2
open PySem PySem.Spec PyProof.Rows
end L2
namespace DL
open PySem PySem.Spec PyProof.Rows L2
noncomputable def rkA(r:AL->Nat)(xs:Array AL)(i:Nat):Nat:=match xs[i]? with
 |some p=>r p
 |none=>0
def aNc(r:AL->Nat)(xs:Array AL)(l h:Nat):Prop:=∀i j,l<=i->i<j->j<h->rkA r xs i<rkA r xs j
structure Asks(prog:AD)(w:AG)(A:BD)(E:BA->BB->Prop)(s:BB)(κ:SortKind)(r:AL->Nat)(a₀:Array AL):Prop where
 ask:∀ {x y:AL}{st:BH}{Q:Option Bool->BH->Prop},x∈a₀.toList->y∈a₀.toList->kindOf st=κ->Q (some (decide<|r x<r y)) st->wpS (AF prog w) A E s (lt' x y) Q st
 nd:(a₀.toList.map r).Nodup
structure SB(κ:SortKind)(a₀:Array AL)(st:BH):Prop where
 perm:(arrOf st).Perm a₀
 kind:kindOf st=κ
 failed:failedOf st=none
structure Stp(κ:SortKind)(a₀:Array AL)(lo hi:Nat)(st st':BH):Prop where
 sb:SB κ a₀ st'
 pend:pendingOf st'=pendingOf st
 keep:∀k,k<lo\/hi<=k->(arrOf st')[k]? =(arrOf st)[k]?
structure MS(r:AL->Nat)(a b:Array AL)(out:List AL)(ia ib:Nat):Prop where
 ha:ia<=a.size
 hb:ib<=b.size
 perm:out.Perm (a.toList.take ia++b.toList.take ib)
 asc:(out.map r).Pairwise (·<·)
 la:∀x∈out,∀i,ia<=i->i<a.size->r x<rkA r a i
 lb:∀x∈out,∀i,ib<=i->i<b.size->r x<rkA r b i
def MD(r:AL->Nat)(a b:Array AL)(out:List AL):Prop:=out.Perm (a.toList++b.toList)/\(out.map r).Pairwise (·<·)
noncomputable def aFZ:Array AL->Array AL->StateT BH Sem (Array AL):=sortPriv%PySem.Builtin.mergeLo
structure aKg(st st':BH):Prop where
 kind:kindOf st'=kindOf st
 arr:arrOf st'=arrOf st
 pend:pendingOf st'=pendingOf st
 failed:failedOf st'=failedOf st
structure MPre(r:AL->Nat)(a₀ a b:Array AL):Prop where
 a1:1<=a.size
 b1:1<=b.size
 asa:aNc r a 0 a.size
 asb:aNc r b 0 b.size
 ma:∀x∈a.toList,x∈a₀.toList
 mb:∀x∈b.toList,x∈a₀.toList
 ne:∀i j,i<a.size->j<b.size->rkA r a i≠rkA r b j
 first:rkA r b 0<rkA r a 0
 last:rkA r b (b.size-1)<rkA r a (a.size-1)
noncomputable abbrev SM:=StateT BH Sem
noncomputable abbrev ML1:=Option (Array AL)×Array AL×Nat×Nat×Nat×Nat
noncomputable abbrev ML2:=Option (Array AL)×Array AL×Nat×Nat×Nat×Nat×Nat
noncomputable abbrev ML0:=Option (Array AL)×Array AL×Nat×Nat×Nat
def FIN(r:AL->Nat)(a b:Array AL)(o:Option (Array AL)):Prop:=∃res,o=some res/\MD r a b res.toList
structure HS(r:AL->Nat)(a b:Array AL)(out:List AL)(na nb:Nat):Prop where
 ha:na<=a.size
 hb:nb<=b.size
 perm:out.Perm (a.toList.drop na++b.toList.drop nb)
 dsc:(out.map r).Pairwise (λx y=>y<x)
 la:∀x∈out,∀i,i<na->rkA r a i<r x
 lb:∀x∈out,∀i,i<nb->rkA r b i<r x
noncomputable def aFn:Array AL->Array AL->StateT BH Sem (Array AL):=sortPriv%PySem.Builtin.mergeHi
noncomputable abbrev MH1:=Option (Array AL)×Nat×Nat×Array AL×Nat×Nat
noncomputable abbrev MH2:=Option (Array AL)×Nat×Nat×Array AL×Nat×Nat×Nat
noncomputable abbrev MH0:=Option (Array AL)×Nat×Nat×Array AL×Nat
def OKh(r:AL->Nat)(a b:Array AL)(N:Nat)(o:Option (Array AL))(out:Array AL)(na nb:Nat):Prop:=o=none/\HS r a b out.toList na nb/\1<=na/\2<=nb/\na+nb+N<=a.size+b.size
section
variable {prog:AD}{w:AG}{A:BD}{E:BA->BB->Prop}{s:BB}{κ:SortKind}{r:AL->Nat}{a₀ a b out:Array AL}{st st0:BH}{na nb:Nat}
def H2(r:AL->Nat)(a b:Array AL)(st0:BH)(N:Nat):ForInStep MH2->BH->Prop:=λq st'=>aKg st0 st'/\match q with
 |.done c=>FIN r a b c.1\/OKh r a b N c.1 c.2.2.2.1 c.2.1 c.2.2.1
 |.yield c=>OKh r a b N c.1 c.2.2.2.1 c.2.1 c.2.2.1
def H1(r:AL->Nat)(a b:Array AL)(st:BH)(N:Nat):ForInStep MH1->BH->Prop:=λq st'=>st'=st/\match q with
 |.done c=>FIN r a b c.1\/OKh r a b N c.1 c.2.2.2.1 c.2.1 c.2.2.1
 |.yield c=>OKh r a b N c.1 c.2.2.2.1 c.2.1 c.2.2.1
def H0(r:AL->Nat)(a b:Array AL)(st0:BH)(N:Nat):ForInStep MH0->BH->Prop:=λq st'=>aKg st0 st'/\match q with
 |.done c=>FIN r a b c.1
 |.yield c=>OKh r a b N c.1 c.2.2.2.1 c.2.1 c.2.2.1
end
noncomputable abbrev Pnd:=Array<|Nat×Nat×Nat
noncomputable def wbA(sa:Nat)(m:Array AL)(xs:Array AL):Array AL:=m.toList.zipIdx.foldl (λa (q:AL×Nat)=>a.setIfInBounds (sa+q.2) q.1) xs
noncomputable def mgC(x y:Array AL)(na nb sa:Nat):SM Bool:=do
 let merged <-if na<=nb then aFZ x y else aFn x y
 modify λs=>setArr s (wbA sa merged<|arrOf s)
 let s <-get
 pure (failedOf s).isNone
noncomputable def aOj(r:AL->Nat)(xs:Array AL):Nat->List (Nat×Nat×Nat)->Nat->Prop
 |s,[],e=>s=e
 |s,p::l,e=>p.1=s/\1<=p.2.1/\aNc r xs s (s+p.2.1)/\aOj r xs (s+p.2.1) l e
variable {prog:AD}{w:AG}{A:BD}{E:BA->BB->Prop}{s:BB}{κ:SortKind}{r:AL->Nat}{a₀:Array AL}{st st':BH}
structure SR(κ:SortKind)(r:AL->Nat)(a₀:Array AL)(lo:Nat)(st:BH):Prop where
 sb:SB κ a₀ st
 runs:aOj r (arrOf st) 0 (pendingOf st).toList lo
open PySem.W (KasT kas_sort kas_asc kas_desc kas_tail3 kas_descPart kas_count kas_place kas_bin kas_rev kas_ask kas_item kat_lt kat_cons kat_nil kat_yes kat_no kat_one kat_kind kat_run kat_snds KatTups)
inductive Bel{α:Type}(n:Nat)(P:α->Prop):KasT α->Prop
 |ret {a:α}:P a->Bel n P (.ret a)
 |ask {i j:Nat}{k:Bool->KasT α}:i<n->j<n->(∀b,Bel n P<|k b)->Bel n P (.ask i j k)
def aKT(h:BE)(v:BA)(x:Int×Int):Prop:=∃a o n t u,v=.ref a/\h.get? a=some o/\o.cls=.type "tuple"/\o.data=.seq #[.int x.1 t,.int x.2 u] n
inductive zM(h:BE):List BA->List (Int×Int)->Prop
 |nil:zM h [] []
 |cons {v:BA}{x:Int×Int}{vs:List BA}{ps:List (Int×Int)}:aKT h v x->zM h vs ps->zM h (v::vs) (x::ps)
open PySem.W (KasT kas_sort kas_asc kas_desc kas_tail3 kas_descPart kas_count kas_place kas_bin kas_rev)
structure Ord(n:Nat)(ans:Nat->Nat->Bool):Prop where
 tr:∀i j k,i<n->j<n->k<n->ans i j=true->ans j k=true->ans i k=true
 ir:∀i,i<n->ans i i=false
 tt:∀i j,i<n->j<n->i≠j->ans i j=true\/ans j i=true
noncomputable abbrev gN(p:Array Nat)(k:Nat):Nat:=p.getD k 0
open PySem.W (KasT kas_sort kas_asc kas_desc kas_tail3 kas_descPart kas_count kas_place kas_bin kas_rev kas_ask kas_item kat_lt kat_cons kat_nil kat_yes kat_no kat_one kat_kind kat_run kat_snds KatTups KatLex)
def aLb(h:BE)(v:BA)(x:List Int):Prop:=∃a o n,∃its:List BA,v=.ref a/\h.get? a=some o/\o.cls=.type "tuple"/\o.data=.seq its.toArray n/\IntsAre its x/\x≠[]
inductive aBS(h:BE):List BA->List (List Int)->Prop
 |nil:aBS h [] []
 |cons {v:BA}{x:List Int}{vs:List BA}{ps:List (List Int)}:aLb h v x->aBS h vs ps->aBS h (v::vs) (x::ps)
theorem uW{a b:List Nat}{j:Nat}(ha:∀x∈a,x<j)(hb:∀x∈b,j<=x):∀ (fuel lo hi:Nat),hi-lo<=fuel->lo<=a.length->a.length<=hi->hi<=(a++b).length->fX.go (a++b).toArray j fuel lo hi=a.length
 |0,lo,hi,h1,h2,h3,h4=>by unfold fX.go;omega
 |fuel+1,lo,hi,h1,h2,h3,h4=>by
  unfold fX.go
  by_cases hlt:lo<hi
  ·rw[if_pos hlt];have hm:(lo+hi) / 2<hi:=by omega
   have hl:(lo+hi) / 2<(a++b).length:=by omega
   have hl2:(lo+hi) / 2<a.length+b.length:=by rw[<-aU];exact hl
   have e:(a++b).toArray.getD ((lo+hi) / 2) j=(a++b)[(lo+hi) / 2]:=by simp[Array.getD,hl2]
   dsimp only;rw[e]
   by_cases hc:(lo+hi) / 2<a.length
   ·have:(a++b)[(lo+hi) / 2]<j:=by rw[List.getElem_append_left hc];exact ha _ (dE hc)
    rw[if_pos this];exact uW ha hb fuel _ _ (by omega) (by omega) h3 h4
   ·have hb':j<=(a++b)[(lo+hi) / 2]:=by rw[List.getElem_append_right<|by omega];exact hb _ (dE _)
    rw[if_neg<|by omega];exact uW ha hb fuel _ _ (by omega) h2 (by omega)<|by omega
  ·rw[if_neg hlt];omega
theorem uD{a b:List Nat}{j:Nat}(ha:∀x∈a,x<j)(hb:∀x∈b,j<=x):fX (a++b).toArray j=a.length:=by unfold fX;rw[aI];exact uW ha hb _ _ _ (by omega) (bU _) (by simp)<|aO _
theorem aCj(j:Nat):∀ {xs:List Nat},xs.Pairwise (·<·)->∃a b,xs=a++b/\(∀x∈a,x<j)/\∀x∈b,j<=x
 |[],_=>⟨[],[],rfl,(λx h=>by cases h),λx h=>by cases h⟩
 |x::xs,h=>by
  obtain⟨h1,h2⟩:=gZ.mp h
  by_cases hx:x<j
  ·obtain⟨a,b,e,ha,hb⟩:=aCj j h2;refine⟨x::a,b,by rw[e];rfl,λy hy=> ?_,hb⟩
   rcases aG.mp hy with rfl|hy
   ·exact hx
   ·exact ha y hy
  ·refine⟨[],x::xs,rfl,(λy h=>by cases h),λy hy=> ?_⟩
   rcases aG.mp hy with rfl|hy
   ·omega
   ·have:=h1 y hy;omega
noncomputable def tV(m:Nat)(p:SetTable.Probe):SetTable.Probe:=if p.more>0 then{p with j:=p.j+1,more:=p.more-1} else{p with j:=(kJ m p.i p.perturb).1,more:=bV m (kJ m p.i p.perturb).1-(kJ m p.i p.perturb).1,i:=(kJ m p.i p.perturb).1,perturb:=(kJ m p.i p.perturb).2}
noncomputable def at0(m i q:Nat):SetTable.Probe:={j:=i,more:=bV m i-i,i:=i,perturb:=q,dummy:=none}
noncomputable def pr(m:Nat)(h:Int):Nat->SetTable.Probe
 |0=>at0 m (cB h%(m+1))<|cB h
 |n+1=>tV m<|pr m h n
theorem uH(m:Nat)(h:Int):∀n,(pr m h n).dummy=none
 |0=>rfl
 |n+1=>by
  show(tV m<|pr m h n).dummy=none;unfold tV
  split
  ·exact uH m h n
  ·exact uH m h n
noncomputable def lp(m:Nat)(h:Int):Nat->Nat
 |0=>cB h%(m+1)
 |k+1=>(lp m h k*5+1+cB h / 32^k / 32)%(m+1)
theorem aKH(m i:Nat):bV m i-i<=9:=by
 unfold bV
 split<;>omega
theorem rL(m:Nat)(h:Int)(n i q:Nat)(e:pr m h n=at0 m i q):∀r,r<=bV m i-i->pr m h (n+r)={at0 m i q with j:=i+r,more:=bV m i-i-r}
 |0,_=>e
 |r+1,hr=>by have ih:=rL m h n i q e r (by omega);show tV m (pr m h<|n+r)=_;rw[ih];unfold tV;rw[if_pos<|by show bV m i-i-r>0;omega];rfl
theorem aCV(m:Nat)(h:Int):∀k,∃n,n<=10*k/\pr m h n=at0 m (lp m h k) (cB h / 32^k)
 |0=>⟨0,aO _,by show at0 _ _ _=_;rw[aEC,aGj];rfl⟩
 |k+1=>by
  obtain⟨n,hn,e⟩:=aCV m h k;have r9:=aKH m<|lp m h k;have e2:=rL m h n _ _ e _<|aO _;refine⟨n+(bV m (lp m h k)-lp m h k)+1,by omega, ?_⟩;show tV m (pr m h _)=_;rw[e2];unfold tV;rw[if_neg<|by show ¬ (bV m (lp m h k)-lp m h k-(bV m (lp m h k)-lp m h k)>0);omega];show at0 m _ _=at0 m _ _;have z:cB h / 32^(k+1)=cB h / 32^k / 32:=by rw[aED,nI]
  rw[z];rfl
noncomputable def itM(m:Nat):Nat->Nat->Nat
 |0,i=>i
 |q+1,i=>(itM m q i*5+1)%(m+1)
theorem aIz(h:Int):cB h<2^64:=by unfold cB;have h1:=cM h (show((2:Int)^64)≠0 by decide);have h2:=cO h (show(0:Int)<2^64 by decide);omega
theorem xU(m:Nat)(h:Int):∀q,lp m h (13+q)=itM m q (lp m h 13)
 |0=>rfl
 |q+1=>by
  show(lp m h (13+q)*5+1+cB h / 32^(13+q) / 32)%(m+1)=(itM m q (lp m h 13)*5+1)%(m+1);rw[xU m h q]
  have z:cB h / 32^(13+q)=0:=by refine Nat.div_eq_of_lt (aX (aIz h) ?_);exact aQ (show 2^64<=32^13 by decide) (jD (by decide)<|vB _ _)
  rw[z]
theorem aNN(m:Nat)(h:Int):∀k,lp m h k<m+1
 |0=>dI _<|sM _
 |k+1=>dI _<|sM _
def okM(m:Nat):Prop:=m=7\/m=31\/m=63\/m=127\/m=255
noncomputable def orb(m:Nat):Nat->List Nat->List Nat
 |0,l=>l
 |n+1,l=>orb m n (((l.headD 0)*5+1)%(m+1)::l)
theorem tE(m:Nat)(b:Nat):∀ (a i:Nat),itM m (b+a) i=itM m a (itM m b i)
 |0,_=>rfl
 |a+1,i=>by show(itM m (b+a) i*5+1)%(m+1)=(itM m a (itM m b i)*5+1)%(m+1);rw[tE m b a i]
theorem aCp(m:Nat):∀ (n k:Nat) (l:List Nat),(∀x∈l,∃q,q<=k/\itM m q 0=x)->l.headD 0=itM m k 0->∀x∈orb m n l,∃q,q<=k+n/\itM m q 0=x
 |0,k,l,h,_,x,hx=>h x hx
 |n+1,k,l,h,hd,x,hx=>by
  have e:((l.headD 0)*5+1)%(m+1)=itM m (k+1) 0:=by rw[hd];rfl
  obtain ⟨q,q1,q2⟩:=aCp m n (k+1) (((l.headD 0) * 5+1)%(m+1)::l) (fun y hy=>by
   rcases aG.mp hy with z|z
   ·exact⟨k+1,aO _,by rw[z,e]⟩
   ·obtain⟨q,q1,q2⟩:=h y z
    exact⟨q,by omega,q2⟩) e x hx
  exact⟨q,by omega,q2⟩
noncomputable def aOi(m:Nat):Bool:=((cI<|m+1).all λe=>(orb m m [0]).contains e)&&itM m (m+1) 0==0
theorem aBL{m:Nat}(h:aOi m=true){i e:Nat}(hi:i<m+1)(he:e<m+1):∃q,q<m+1/\itM m q i=e:=by
 simp only[aOi,aR,beq_iff_eq] at h;obtain⟨h1,h2⟩:=h
 have at0:∀e,e<m+1->∃q,q<=m/\itM m q 0=e:=λe he=>by have:=bJ.mp h1 e<|cE.mpr he;obtain⟨q,q1,q2⟩:=aCp m m 0 [0] (λx hx=>⟨0,aO _,by rw[bX.mp hx];rfl⟩) rfl e<|aBD.mp this;exact⟨q,by omega,q2⟩
 obtain⟨a,a1,a2⟩:=at0 i hi;obtain⟨b,b1,b2⟩:=at0 e he
 by_cases z:a<=b
 ·refine⟨b-a,by omega, ?_⟩;rw[<-a2,<-tE,show a+(b-a)=b by omega];exact b2
 ·refine⟨b+(m+1)-a,by omega, ?_⟩;rw[<-a2,<-tE,show a+(b+(m+1)-a)=(m+1)+b by omega,tE,h2];exact b2
theorem cov{m:Nat}(hm:okM m){i e:Nat}(hi:i<m+1)(he:e<m+1):∃q,q<m+1/\itM m q i=e:=by
 rcases hm with rfl|rfl|rfl|rfl|rfl
 ·exact aBL (by decide+kernel) hi he
 ·exact aBL (by decide+kernel) hi he
 ·exact aBL (by decide+kernel) hi he
 ·exact aBL (by decide+kernel) hi he
 ·exact aBL (by decide+kernel) hi he
theorem aAR{m:Nat}(hm:okM m)(h:Int){e:Nat}(he:e<m+1):∃k n,k<m+14/\lp m h k=e/\n<=10*k/\(pr m h n).j=e:=by obtain⟨q,hq,eq⟩:=cov hm (aNN m h 13) he;obtain⟨n,hn,en⟩:=aCV m h<|13+q;refine⟨13+q,n,by omega,by rw[xU];exact eq,hn, ?_⟩;rw[en,xU,eq];rfl
def pbQ(m:Nat)(p:SetTable.Probe):Prop:=p.j<=m/\p.j+p.more<=m/\p.i<m+1
theorem aGN{m:Nat}(i:Nat)(q:Nat)(d:Option Nat)(hi:i<m+1):pbQ m {j:=i,more:=bV m i-i,i:=i,perturb:=q,dummy:=d}:=by
 refine⟨by show i<=m;omega, ?_,hi⟩;show i+(bV m i-i)<=m;unfold bV
 split<;>omega
theorem aIs{m:Nat}{p:SetTable.Probe}(h:pbQ m p):pbQ m (tV m p):=by
 obtain⟨h1,h2,h3⟩:=h;unfold tV
 split
 ·exact⟨by show p.j+1<=m;omega,by show p.j+1+(p.more-1)<=m;omega,h3⟩
 ·exact aGN _ _ _ (dI _<|sM _)
theorem aME{m:Nat}(h:Int):∀n:Nat,pbQ m (pr m h n)
 |0=>aGN _ _ _ (dI _<|sM _)
 |n+1=>aIs<|aME h n
noncomputable abbrev iC:=Nat×List Key×BC
structure TabT(hs:List Key->Int)(t:BI)(es:Array (Int×BA))(T:List iC):Prop where
 om:okM t.mask
 pl:t.place=(T.map (·.1)).toArray
 en:es=(T.map λr=>(hs r.2.1,Value.ref r.2.2)).toArray
 du:t.dummies= #[]
 rs:(T.map (·.1)).Pairwise (·<·)
 lt:∀r∈T,r.1<=t.mask
 rc:∀r∈T,∃n,(pr t.mask (hs r.2.1) n).j=r.1/\∀i,i<n->(pr t.mask (hs r.2.1) i).j∈T.map (·.1)
 kn:(T.map (·.2.1)).Nodup
variable {hs:List Key->Int}{t:BI}{es:Array (Int×BA)}{T:List iC}
theorem TabT.slot_live(X:TabT hs t es T){A B:List iC}{r:iC}(e:T=A++r::B):t.slot r.1=.live A.length:=by
 have h:=X.rs;rw[e,aT,bB] at h;obtain⟨_,h2,h3⟩:=dQ.mp h
 have hb:=uD (a:=A.map (·.1)) (b:=r.1::B.map (·.1)) (j:=r.1) (λx hx=>h3 x hx r.1 aM) λx hx=>by
  rcases aG.mp hx with rfl|hx
  ·exact aO _
  ·exact dW<|(gZ.mp h2).1 x hx
 unfold aHr;rw[X.pl,e,aT,bB,hb];simp
theorem TabT.slot_empty(X:TabT hs t es T){j:Nat}(h:j∉T.map (·.1)):t.slot j=.empty:=by
 obtain⟨a,b,e,ha,hb⟩:=aCj j X.rs;have hbl:=uD ha hb;unfold aHr;rw[X.pl,X.du,e,hbl]
 have hn:((a++b).toArray[a.length]? ==some j)=false:=by
  cases b with
  |nil=>simp
  |cons y b=>
   have:y≠j:=λz=>h (by rw[e,<-z];simp)
   simp[this]
 dsimp only;rw[hn];rfl
theorem aFV{j:Nat}(h:j∈T.map (·.1)):∃A r B,T=A++r::B/\r.1=j:=by obtain⟨r,hr,e⟩:=bA.mp h;obtain⟨A,B,q⟩:=aGh hr;exact⟨A,r,B,q,e⟩
theorem TabT.same_row(X:TabT hs t es T){r r':iC}(h:r∈T)(h':r'∈T)(e:r.1=r'.1):r=r':=by
 obtain⟨A,B,q⟩:=aGh h;have hp:=X.rs;rw[q,aT,bB] at hp;obtain⟨_,h2,h3⟩:=dQ.mp hp;rw[q] at h'
 rcases aW.mp h' with z|z
 ·have:=h3 r'.1 (bT z) r.1 aM;omega
 ·rcases aG.mp z with z|z
  ·exact z.symm
  ·have:=(gZ.mp h2).1 r'.1<|bT z;omega
theorem aCE(X:TabT hs t es T){hashAt:Nat->Int}(hh:∀A r B,T=A++r::B->hashAt A.length=hs r.2.1)(h:Int):∀ (fuel n e:Nat),n<=e->e-n<fuel->(pr t.mask h e).j∉T.map (·.1)->
  ∃k,n<=k/\k<=e/\(∀i,n<=i->i<k->(pr t.mask h i).j∈T.map (·.1)/\∀r∈T,r.1=(pr t.mask h i).j->hs r.2.1≠h)/\
   (((pr t.mask h k).j∉T.map (·.1)∧fD.go t hashAt h fuel (pr t.mask h n)=some (.empty (pr t.mask h k).j none))∨
    ∃A r B,T=A++r::B/\r.1=(pr t.mask h k).j/\hs r.2.1=h/\fD.go t hashAt h fuel (pr t.mask h n)=some (.candidate (pr t.mask h k).j A.length (pr t.mask h (k+1))))
 |0,n,e,h1,h2,h3=>by omega
 |fuel+1,n,e,h1,h2,h3=>by
  by_cases hm:(pr t.mask h n).j∈T.map (·.1)
  ·obtain⟨A,r,B,q,er⟩:=aFV hm;have hl:=X.slot_live q;rw[er] at hl
   have hlt:n<e:=by
    rcases cW h1 with z|z
    ·exact z
    ·rw[z] at hm;exact absurd hm h3
   by_cases hq:hs r.2.1=h
   ·refine⟨n,aO _,h1,(λi a b=>by omega),.inr ⟨A,r,B,q,er,hq, ?_⟩⟩;unfold fD.go;rw[hl];simp only;rw[hh A r B q,hq];simp;rfl
   ·obtain⟨k,k1,k2,k3,k4⟩:=aCE X hh h fuel (n+1) e hlt (by omega) h3;refine⟨k,by omega,k2,λi a b=> ?_, ?_⟩
    ·rcases cW a with z|z
     ·exact k3 i z b
     ·subst z;refine⟨hm,λr' hr' e'=> ?_⟩;have:r'=r:=X.same_row hr' (by rw[q];simp)<|e'.trans er.symm;rw[this];exact hq
    ·have st:fD.go t hashAt h (fuel+1) (pr t.mask h n)=fD.go t hashAt h fuel (pr t.mask h<|n+1):=by
      conv=>lhs;unfold fD.go
      rw[hl];simp only;rw[hh A r B q,if_neg<|by simpa using hq];rfl
     rw[st];exact k4
  ·refine⟨n,aO _,h1,(λi a b=>by omega),.inl ⟨hm, ?_⟩⟩;unfold fD.go;rw[X.slot_empty hm];simp only;rw[uH]
theorem TabT.room(X:TabT hs t es T)(hl:T.length<=t.mask)(h:Int):∃e,e<10*eS t.mask/\(pr t.mask h e).j∉T.map (·.1)/\∀i,i<e->(pr t.mask h i).j∈T.map (·.1):=by
 have ex:∃j,j<t.mask+1/\j∉T.map (·.1):=by
  refine Classical.byContradiction λhn=> ?_
  have all:∀j∈cI (t.mask+1),j∈T.map (·.1):=λj hj=>Classical.byContradiction λz=>hn ⟨j,cE.mp hj,z⟩
  have:=(tH (n:=t.mask+1)).length_le_of_subset all;rw[iL,aD] at this;omega
 obtain⟨j,hj,hn⟩:=ex;obtain⟨k,n,h1,h2,h3,h4⟩:=aAR X.om h hj;have:∃e,(pr t.mask h e).j∉T.map (·.1):=⟨n,by rw[h4];exact hn⟩
 obtain⟨e,he,hmin⟩:∃e,(pr t.mask h e).j∉T.map (·.1)/\∀i,i<e->¬ (pr t.mask h i).j∉T.map (·.1):=by
  refine Classical.byContradiction λz=> ?_
  have noall:∀m,∀i,i<m->¬ (pr t.mask h i).j∉T.map (·.1):=λm=>by
   induction m with
   |zero=>intro i hi;omega
   |succ m ih=>
    intro i hi hc
    rcases cW (Nat.le_of_lt_succ hi) with q|q
    ·exact ih i q hc
    ·subst q;exact z ⟨i,hc,ih⟩
  obtain⟨e,he⟩:=this;exact noall (e+1) e (aJL _) he
 refine⟨e, ?_,he,λi hi=>Classical.byContradiction λz=>hmin i hi z⟩;have:e<=n:=aJK λz=>hmin n z (by rw[h4];exact hn)
 unfold eS;omega
theorem TabT.ahead(X:TabT hs t es T){r:iC}(hr:r∈T){e:Nat}(he:(pr t.mask (hs r.2.1) e).j∉T.map (·.1)):∃n,n<e/\(pr t.mask (hs r.2.1) n).j=r.1:=by
 obtain⟨n,h1,h2⟩:=X.rc r hr;refine⟨n,vC λz=> ?_,h1⟩
 rcases cW z with q|q
 ·exact he<|h2 e q
 ·subst q;exact he (by rw[h1];exact bT hr)
theorem cutT(h:(T.map (·.1)).Pairwise (·<·)){j:Nat}(hj:j∉T.map (·.1)):∃A B,T=A++B/\(∀r∈A,r.1<j)/\∀r∈B,j<r.1:=by
 obtain⟨a,b,e,ha,hb⟩:=aCj j h;refine⟨T.take a.length,T.drop a.length,(iS _ _).symm,λr hr=> ?_,λr hr=> ?_⟩
 ·have:r.1∈(T.take a.length).map (·.1):=bT hr;rw[rA,e,List.take_left] at this;exact ha _ this
 ·have h1:r.1∈(T.drop a.length).map (·.1):=bT hr;rw[rB,e,List.drop_left] at h1;have h2:=hb _ h1
  rcases cW h2 with q|q
  ·exact q
  ·exact absurd (bT<|gE hr) (by rw[q] at hj;exact hj)
theorem TabT.put(X:TabT hs t es T){j:Nat}{k:List Key}{a:BC}(hj:j∉T.map (·.1))(hm:j<=t.mask)(hk:k∉T.map (·.2.1))(hr:∃n,(pr t.mask (hs k) n).j=j/\∀i,i<n->(pr t.mask (hs k) i).j∈T.map (·.1))(b:Bool):
  ∃A B,T=A++B/\TabT hs {(t.put j).1 with plain:=b} (fS es (t.put j).2 (hs k,.ref a)) (A++(j,k,a)::B):=by
 obtain⟨A,B,e,hA,hB⟩:=cutT X.rs hj
 have hbl:fX t.place j=A.length:=by rw[X.pl,e,aT];rw[uD (a:=A.map (·.1)) (b:=B.map (·.1)) (λx hx=>by obtain⟨r,hr,rfl⟩:=bA.mp hx;exact hA r hr) λx hx=>by obtain⟨r,hr,rfl⟩:=bA.mp hx;exact dW<|hB r hr];rw[aD]
 have e1:(t.put j).2=A.length:=hbl
 have e2:(t.put j).1.place=((A++(j,k,a)::B).map (·.1)).toArray:=by show fS t.place (fX t.place j) j=_;rw[hbl,X.pl,aKk,e];congr 1;rw[aT,aT,bB,nG (by rw[aD]),nH<|by rw[aD]]
 have e3:(t.put j).1.dummies= #[]:=by show(if SetTable.has t.dummies j then _ else t.dummies)= #[];rw[X.du];rfl
 have mem:∀ {x:Nat},x∈T.map (·.1)->x∈(A++(j,k,a)::B).map (·.1):=λ{x} hx=>by
  rw[e,aT] at hx;rw[aT,bB]
  rcases aW.mp hx with z|z
  ·exact bH _ z
  ·exact aJ _<|aH _ z
 have rows:∀ {r:iC},r∈A++(j,k,a)::B->r=(j,k,a)\/r∈T:=λ{r} hr=>by
  rcases aW.mp hr with z|z
  ·exact .inr (by rw[e];exact bH _ z)
  ·rcases aG.mp z with z|z
   ·exact .inl z
   ·exact .inr (by rw[e];exact aJ _ z)
 refine⟨A,B,e,X.om,e2, ?_,e3, ?_,λr hr'=> ?_,λr hr'=> ?_, ?_⟩
 ·rw[e1,X.en,aKk,e];congr 1;rw[aT,aT,bB,nG (by rw[aD]),nH<|by rw[aD]]
 ·have hp:=X.rs;rw[e,aT] at hp;obtain⟨p1,p2,p3⟩:=dQ.mp hp;rw[aT,bB];refine dQ.mpr ⟨p1,gZ.mpr ⟨λx hx=> ?_,p2⟩,λx hx y hy=> ?_⟩
  ·obtain⟨r,hr,rfl⟩:=bA.mp hx;exact hB r hr
  ·obtain⟨r,hrA,rfl⟩:=bA.mp hx
   rcases aG.mp hy with hy|hy
   ·rw[show y=j from hy];exact hA r hrA
   ·exact p3 _ (bT hrA) y hy
 ·rcases rows hr' with rfl|z
  ·exact hm
  ·exact X.lt r z
 ·rcases rows hr' with rfl|z
  ·obtain⟨n,q1,q2⟩:=hr;exact⟨n,q1,λi hi=>mem<|q2 i hi⟩
  ·obtain⟨n,q1,q2⟩:=X.rc r z;exact⟨n,q1,λi hi=>mem<|q2 i hi⟩
 ·have hn:=X.kn;rw[e,aT] at hn hk;obtain⟨n1,n2,n3⟩:=dA.mp hn;rw[aT,bB];refine dA.mpr ⟨n1,dY.mpr ⟨λz=>hk<|aJ _ z,n2⟩,λx hx y hy=> ?_⟩
  rcases aG.mp hy with rfl|hy
  ·exact λz=>hk (bH _<|z▸hx)
  ·exact n3 x hx y hy
def emp(ow:Array (Option Nat))(j:Nat):Prop:=(ow.getD j<|some 0).isNone=true
theorem aHQ{m:Nat}{h:Int}{n c:Nat}(e:pr m h n=at0 m (lp m h c) (cB h / 32^c)):pr m h (n+(bV m (lp m h c)-lp m h c)+1)=at0 m (lp m h<|c+1) (cB h / 32^(c+1)):=by
 have e2:=rL m h n _ _ e _<|aO _;show tV m (pr m h _)=_;rw[e2];unfold tV;rw[if_neg<|by show ¬ (bV m (lp m h c)-lp m h c-(bV m (lp m h c)-lp m h c)>0);omega];show at0 m _ _=at0 m _ _;have z:cB h / 32^(c+1)=cB h / 32^c / 32:=by rw[aED,nI]
 rw[z];rfl
theorem vX{m:Nat}{ow:Array (Option Nat)}(h:Int):∀ (fuel c n k:Nat),pr m h n=at0 m (lp m h c) (cB h / 32^c)->c<=k->k-c<fuel->emp ow (lp m h k)->
  ∃j n',fC.free m ow fuel (lp m h c) (cB h / 32^c)=some j/\n<=n'/\(pr m h n').j=j/\emp ow j/\∀i,n<=i->i<n'->¬ emp ow (pr m h i).j
 |0,c,n,k,e,h1,h2,h3=>by omega
 |fuel+1,c,n,k,e,h1,h2,h3=>by
  have rl:lp m h c<=bV m (lp m h c):=by
   unfold bV
   split<;>omega
  cases hf:(cI<|bV m (lp m h c)+1-lp m h c).find? λx=>(ow.getD (lp m h c+x)<|some 0).isNone with
  |some x=>
   have hx:=vN hf;have hm:=cE.mp<|kQ hf;refine⟨lp m h c+x,n+x, ?_,by omega, ?_,hx,λi i1 i2 hc=> ?_⟩
   ·unfold fC.free;rw[hf]
   ·rw[rL m h n _ _ e x<|by omega]
   ·have er:=rL m h n _ _ e (i-n) (by omega);rw[show n+(i-n)=i by omega] at er;rw[er] at hc;obtain⟨l1,l2,el,hl⟩:=List.find?_eq_some_iff_append.mp hf |>.2
    have hmem:(i-n)∈l1:=by
     have hp:(l1++x::l2).Pairwise (·<·):=el▸aBB;have hin:(i-n)∈l1++x::l2:=el▸cE.mpr (by omega)
     rcases aW.mp hin with z|z
     ·exact z
     ·rcases aG.mp z with z|z
      ·omega
      ·have:=(gZ.mp (dQ.mp hp).2.1).1 _ z;omega
    have:=hl _ hmem;have hc':(ow.getD (lp m h c+(i-n))<|some 0).isNone=true:=hc;simp only[hc',iX,aZ] at this
  |none=>
   have hno:∀x,x<bV m (lp m h c)+1-lp m h c->¬ emp ow (lp m h c+x):=λx hx hc=>by have:=kH.mp hf x<|cE.mpr hx;exact this hc
   have hlt:c<k:=by
    rcases cW h1 with z|z
    ·exact z
    ·subst z;exact absurd h3 (by have:=hno 0 (by omega);rwa[Nat.add_zero] at this)
   obtain⟨j,n',a1,a2,a3,a4,a5⟩:=vX h fuel (c+1) _ k (aHQ e) hlt (by omega) h3;refine⟨j,n', ?_,by omega,a3,a4,λi i1 i2 hc=> ?_⟩
   ·unfold fC.free;rw[hf];have z:cB h / 32^(c+1)=cB h / 32^c / 32:=by rw[aED,nI]
    rw[z] at a1;exact a1
   ·by_cases hi:i<n+(bV m (lp m h c)-lp m h c)+1
    ·have er:=rL m h n _ _ e (i-n) (by omega);rw[show n+(i-n)=i by omega] at er;rw[er] at hc;exact hno (i-n) (by omega) hc
    ·exact a5 i (by omega) i2 hc
theorem emp_iff{ow:Array (Option Nat)}{j:Nat}:emp ow j↔ow[j]? =some none:=by
 unfold emp;rw[vO];cases h:ow[j]? with
 |none=>simp
 |some o=>cases o<;>simp
structure LI(m:Nat)(ow:Array (Option Nat))(dn:List Int):Prop where
 sz:ow.size=m+1
 at_:∀ (x:Nat) (h:Int),dn[x]? =some h->∃j,ow[j]? =some (some x)/\∃n,(pr m h n).j=j/\∀i,i<n->ow[(pr m h i).j]? ≠some none
 lt:∀ (j x:Nat),ow[j]? =some (some x)->x<dn.length
 un:∀ (j j' x:Nat),ow[j]? =some (some x)->ow[j']? =some (some x)->j=j'
theorem LI.nil(m:Nat):LI m (vE (m+1) none) []:=by
 refine⟨by simp,λx h e=>by simp at e,λj x e=> ?_,λj j' x e _=> ?_⟩
 ·rw[zR] at e
  split at e<;>simp at e
 ·rw[zR] at e
  split at e<;>simp at e
theorem LI.free{m:Nat}{ow:Array (Option Nat)}{dn:List Int}(L:LI m ow dn)(hl:dn.length<=m):∃j,j<m+1/\ow[j]? =some none:=by
 refine Classical.byContradiction λhn=> ?_
 have all:∀j,j<m+1->∃x,ow[j]? =some (some x):=λj hj=>by
  have hs:j<ow.size:=by rw[L.sz];exact hj
  cases h:ow[j]? with
  |none=>rw[vT] at h;omega
  |some o=>
   cases o with
   |none=>exact absurd ⟨j,hj,h⟩ hn
   |some x=>exact⟨x,rfl⟩
 have nd:((cI<|m+1).map λj=>((ow[j]?).getD none).getD 0).Nodup:=by rw[gF,gA];refine List.Pairwise.imp_of_mem ?_ (gF.mp<|tH (n:=m+1));intro a b ha hb hab hc;obtain⟨x,hx⟩:=all a<|cE.mp ha;obtain⟨y,hy⟩:=all b<|cE.mp hb;rw[hx,hy] at hc;have hc:x=y:=hc;subst hc;exact hab<|L.un a b x hx hy
 have sub:∀y∈(cI<|m+1).map (λj=>((ow[j]?).getD none).getD 0),y∈cI dn.length:=λy hy=>by obtain⟨j,hj,rfl⟩:=bA.mp hy;obtain⟨x,hx⟩:=all j<|cE.mp hj;rw[hx];exact cE.mpr<|L.lt j x hx
 have:=nd.length_le_of_subset sub;rw[aD,iL,iL] at this;omega
noncomputable def aJP(m:Nat)(acc:Option (Array (Option Nat)×Nat))(h:Int):Option (Array (Option Nat)×Nat):=do
 let (owner,k) <-acc
 let j <-fC.free m owner (eS m) (cB h%(m+1)) (cB h)
 pure (owner.setIfInBounds j<|some k,k+1)
theorem LI.step{m:Nat}(hm:okM m){ow:Array (Option Nat)}{dn:List Int}(L:LI m ow dn)(hl:dn.length<=m)(h:Int):∃ow',aJP m (some (ow,dn.length)) h=some (ow',(dn++[h]).length)/\LI m ow' (dn++[h]):=by
 obtain⟨e,he,h0⟩:=L.free hl;obtain⟨k,n,k1,k2,k3,k4⟩:=aAR hm h he;obtain⟨j,n',f1,f2,f3,f4,f5⟩:=vX (ow:=ow) h (eS m) 0 0 k (by show at0 _ _ _=_;rw[aEC,aGj];rfl) (bU _) (by unfold eS;omega) (by rw[k2];exact emp_iff.mpr h0);rw[aEC,aGj] at f1;have hj:=emp_iff.mp f4
 have hjs:j<ow.size:=by
  rcases jV j ow.size with z|z
  ·exact z
  ·rw[mP z] at hj;cases hj
 have g:∀i,(ow.setIfInBounds j<|some dn.length)[i]? =if j=i then some (some dn.length) else ow[i]? :=λi=>by
  rw[Array.getElem?_setIfInBounds]
  by_cases z:j=i
  ·rw[if_pos z,if_pos z,if_pos<|z▸hjs]
  ·rw[if_neg z,if_neg z]
 refine⟨ow.setIfInBounds j<|some dn.length, ?_,by simpa using L.sz,λx h' hx=> ?_,λi x hi=> ?_,λi i' x hi hi'=> ?_⟩
 ·unfold aJP;have f1':fC.free m ow (eS m) (cB h%(m+1)) (cB h)=some j:=f1;simp only[aBE,sE,f1',aHq];simp
 ·rcases jV x dn.length with z|z
  ·rw[zP z] at hx;obtain⟨i,i1,n1,i2,i3⟩:=L.at_ x h' hx;refine⟨i, ?_,n1,i2,λa ha=> ?_⟩
   ·rw[g,if_neg λq=>by rw[q] at hj;rw[hj] at i1;cases i1];exact i1
   ·rw[g]
    split
    ·simp
    ·exact i3 a ha
  ·rw[xD z] at hx
   have:x=dn.length:=by
    rcases cW z with q|q
    ·rw[eA<|by simp;omega] at hx;cases hx
    ·exact q.symm
   subst this;rw[Nat.sub_self] at hx;have:h=h':=by simpa using hx
   subst this;refine⟨j,by rw[g,if_pos rfl],n',f3,λa ha=> ?_⟩;rw[g]
   split
   ·simp
   ·exact λq=>f5 a (bU _) ha<|emp_iff.mpr q
 ·rw[g] at hi;rw[aU]
  split at hi
  ·have:dn.length=x:=by simpa using hi
   simp;omega
  ·have:=L.lt i x hi;omega
 ·rw[g] at hi hi'
  split at hi
  ·rename_i q1
   split at hi'
   ·rename_i q2;rw[<-q1,<-q2]
   ·have e1:dn.length=x:=by simpa using hi
    have:=L.lt i' x hi';omega
  ·split at hi'
   ·have e1:dn.length=x:=by simpa using hi'
    have:=L.lt i x hi;omega
   ·exact L.un i i' x hi hi'
theorem LI.fold{m:Nat}(hm:okM m):∀ (hl dn:List Int) (ow:Array (Option Nat)),LI m ow dn->(dn++hl).length<=m+1->∃ow',hl.foldl (aJP m) (some (ow,dn.length))=some (ow',(dn++hl).length)/\LI m ow' (dn++hl)
 |[],dn,ow,L,_=>⟨ow,by simp,by simpa using L⟩
 |h::hl,dn,ow,L,hlen=>by obtain⟨ow1,e1,L1⟩:=L.step hm (by simp at hlen;omega) h;obtain⟨ow2,e2,L2'⟩:=LI.fold hm hl (dn++[h]) ow1 L1 (by simpa using hlen);refine⟨ow2, ?_,by simpa using L2'⟩;rw[aJG,e1,e2];simp
theorem aDW{m:Nat}(hm:okM m)(hl:List Int)(h:hl.length<=m+1):∃ow,fC m hl.toArray=some ow/\LI m ow hl:=by
 obtain⟨ow,e,L⟩:=LI.fold hm hl [] _ (LI.nil m) (by simpa using h);refine⟨ow, ?_,by simpa using L⟩;have e':hl.foldl (aJP m) (some (vE (m+1) none,0))=some (ow,hl.length):=by simpa using e
 unfold fC;rw[List.foldl_toArray];show aEK (·.1) (hl.foldl (aJP m)<|some (vE (m+1) none,0))=some ow;rw[e'];rfl
noncomputable def gT(hs:List Key->Int)(r:iC):Int×BA:=(hs r.2.1,Value.ref r.2.2)
noncomputable def mF(T:List iC)(p:Nat×Nat):iC:=(p.1,(T.getD p.2 (0,[],0)).2)
theorem aCn(hs:List Key->Int)(T:List iC):∀ (lv:List (Nat×Nat)),(∀p∈lv,p.2<T.length)->(lv.map (·.2)).filterMap (λi=>(T.map<|gT hs)[i]?)=(lv.map<|mF T).map (gT hs)
 |[],_=>rfl
 |p::lv,h=>by have hp:=h p aM;rw[bB,cT,bQ,bN hp];dsimp only[Option.map_some];rw[aCn hs T lv λq hq=>h q<|aH _ hq,bB,bB];congr 1;unfold gT mF;simp[dS,hp]
theorem aIF{m:Nat}(hm:okM m)(hl:T.length<=m+1)(kn:(T.map (·.2.1)).Nodup)(fg mv:Nat)(ld pn:Bool):
  ∃ (t':BI) (ord:Array Nat) (T':List iC),aHs m fg mv ld pn ((T.map<|gT hs).toArray.map (·.1))=some (t',ord)/\t'.mask=m/\t'.moves=mv/\t'.led=ld/\t'.plain=pn/\
   TabT hs t' (ord.filterMap ((T.map<|gT hs).toArray[·]?)) T'/\T'.length=T.length/\(T'.map (·.2)).Perm (T.map (·.2)):=by
 have eh:(T.map<|gT hs).toArray.map (·.1)=(T.map λr=>hs r.2.1).toArray:=by rw[List.map_toArray,cJ];rfl
 obtain⟨ow,e,L⟩:=aDW hm (T.map λr=>hs r.2.1) (by rw[aD];exact hl);obtain⟨lv,hlv⟩:∃lv,lv=(cI<|m+1).filterMap λj=>(ow.getD j none).map (j,·):=⟨_,rfl⟩
 have gd:∀j,ow.getD j none=(ow[j]?).getD none:=λj=>vO ..
 have memlv:∀p:Nat×Nat,p∈lv↔ow[p.1]? =some (some p.2):=λp=>by
  rw[hlv,kF]
  constructor
  ·rintro⟨j,hj,q⟩;rw[gd] at q;cases h:ow[j]? with
   |none=>rw[h] at q;simp at q
   |some o=>
    rw[h] at q;cases o with
    |none=>simp at q
    |some x=>
     have:(j,x)=p:=by simpa using q
     rw[<-this];exact h
  ·intro h
   have hs':p.1<ow.size:=by
    rcases jV p.1 ow.size with z|z
    ·exact z
    ·rw[mP z] at h;cases h
   refine⟨p.1,cE.mpr (by rw[<-L.sz];exact hs'), ?_⟩;rw[gd,h];rfl
 have lt2:∀p∈lv,p.2<T.length:=λp hp=>by
  have:=L.lt p.1 p.2<|(memlv p).mp hp
  rwa[aD] at this
 have rs:(lv.map (·.1)).Pairwise (·<·):=by rw[hlv,gA];refine List.Pairwise.filterMap _ ?_<|aBB (n:=m+1);intro a b hab x hx y hy;obtain⟨u,_,e1⟩:=iI.mp hx;obtain⟨v,_,e2⟩:=iI.mp hy;rw[<-e1,<-e2];exact hab
 have nd2:(lv.map (·.2)).Nodup:=by rw[gF,gA];have:=gA.mp rs;refine List.Pairwise.imp_of_mem ?_ this;intro a b ha hb hab hc;have h1:=(memlv a).mp ha;have h2:=(memlv b).mp hb;rw[hc] at h1;have:=L.un a.1 b.1 b.2 h1 h2;omega
 have perm:(lv.map (·.2)).Perm (cI T.length):=by
  refine(xF nd2 tH).mpr λx=>⟨λhx=> ?_,λhx=> ?_⟩
  ·obtain⟨p,hp,rfl⟩:=bA.mp hx;exact cE.mpr<|lt2 p hp
  ·have hx':=cE.mp hx;obtain⟨j,hj,_⟩:=L.at_ x (hs (T[x]).2.1) (by rw[bQ,bN hx'];rfl);exact bA.mpr ⟨(j,x),(memlv (j,x)).mpr hj,rfl⟩
 have len:(lv.map<|mF T).length=T.length:=by rw[aD,<-aD (f:=(·.2)) (as:=lv),perm.length_eq,iL]
 have fst:(lv.map<|mF T).map (·.1)=lv.map (·.1):=by rw[cJ];rfl
 have snd:((lv.map<|mF T).map (·.2)).Perm (T.map (·.2)):=by
  have e1:(lv.map<|mF T).map (·.2)=(lv.map (·.2)).map λi=>(T.getD i (0,[],0)).2:=by rw[cJ,cJ];rfl
  rw[e1];refine(perm.map _).trans<|List.Perm.of_eq ?_;apply aJu
  ·simp
  ·intro i h1 h2;have hi:i<T.length:=by simpa using h2
   simp[dS,hi]
 refine⟨{mask:=m,place:=(lv.map (·.1)).toArray,dummies:= #[],finger:=fg,led:=ld,moves:=mv,plain:=pn},(lv.map (·.2)).toArray,lv.map<|mF T, ?_,rfl,rfl,rfl,rfl,⟨hm, ?_, ?_,rfl, ?_,λr hr=> ?_,λr hr=> ?_, ?_⟩,len,snd⟩
 ·unfold aHs;rw[eh,e];simp only[aBE,sE,aHq];rw[<-hlv]
 ·show(lv.map (·.1)).toArray=_;rw[fst]
 ·have:=aCn hs T lv lt2;show Array.filterMap _ (lv.map (·.2)).toArray=((lv.map<|mF T).map<|gT hs).toArray;rw[<-this];simp
 ·rw[fst];exact rs
 ·obtain⟨p,hp,rfl⟩:=bA.mp hr;have h:=(memlv p).mp hp
  have hs':p.1<ow.size:=by
   rcases jV p.1 ow.size with z|z
   ·exact z
   ·rw[mP z] at h;cases h
  rw[L.sz] at hs';show p.1<=m;omega
 ·obtain⟨p,hp,rfl⟩:=bA.mp hr;have h:=(memlv p).mp hp;have hi:=lt2 p hp;have ek:(mF T p).2.1=(T[p.2]).2.1:=by unfold mF;simp[dS,hi]
  obtain⟨j,hj,n,n1,n2⟩:=L.at_ p.2 (hs (T[p.2]).2.1) (by rw[bQ,bN hi];rfl);have:j=p.1:=L.un j p.1 p.2 hj h;subst this;rw[ek];refine⟨n,n1,λi hin=> ?_⟩;have occ:=n2 i hin;show(pr m (hs (T[p.2]).2.1) i).j∈_;rw[fst];have hq:=(aME (m:=m) (hs (T[p.2]).2.1) i).1;have hb:(pr m (hs (T[p.2]).2.1) i).j<ow.size:=by rw[L.sz];omega
  cases ho:ow[(pr m (hs (T[p.2]).2.1) i).j]? with
  |none=>rw[vT] at ho;omega
  |some o=>
   cases o with
   |none=>exact absurd ho occ
   |some x=>exact bA.mpr ⟨(_,x),(memlv (_,x)).mpr ho,rfl⟩
 ·have e1:(lv.map<|mF T).map (·.2.1)=((lv.map<|mF T).map (·.2)).map (·.1):=by simp only[cJ];rfl
  have e2:T.map (·.2.1)=(T.map (·.2)).map (·.1):=by rw[cJ];rfl
  rw[e1];rw[e2] at kn;exact(snd.map _).nodup_iff.mpr kn
noncomputable abbrev tK(prog:AD)(w:AG):=tupleKind<|dJ prog w
theorem yZ{d:Nat}{v:BA}(h:Am v=true):ofAClassStatement d v=pure false:=by cases v<;>first|rfl|(cases d<;>rfl)|(simp[Am] at h)
theorem aGG{x:BC}{k:List Key}{Q:Bool->BB->Prop}(hx:(tK prog w).is s.heap k x)(h:Q false s):AE (AF prog w) A (ofAClassStatement 8<|.ref x) Q E s:=by
 have hk:IsTupleKey (dJ prog w) s.heap k x:=hx;have hT:=hk.typeIs;obtain⟨o,items,n,ho,hc,hd,hi⟩:=hk;unfold ofAClassStatement;refine AA<|wpAny_typeOf hT ?_;dsimp only;refine AA<|AC ?_;simp only[iX,aZ,if_false];refine AA<|AW ho hd ?_;dsimp only;refine AA ?_;rw[<-aEM];refine wpAny_forIn_list _ (λrest r s'=>r.1=none/\s'=s/\∀v∈rest,Am v=true) _ ?_ ?_ _ _ ⟨rfl,rfl,hi.byValue⟩
 ·rintro v rest r s' ⟨hr,rfl,hall⟩;rw[yZ<|hall v aM];refine AA<|AC ?_;simp only[aZ,if_false];exact AC ⟨rfl,rfl,λu hu'=>hall u<|aH _ hu'⟩
 ·rintro⟨r1,r2⟩ s' ⟨hr,rfl,_⟩;simp only at hr;subst hr;exact AC h
theorem aNG{x:BC}{k:List Key}{stored:List BA}{Q:Bool->BB->Prop}(hx:(tK prog w).is s.heap k x)(hs:∀v∈stored,∃k' b,v=.ref b/\(tK prog w).is s.heap k' b)(h:Q false s):AE (AF prog w) A (searchCouldBeSeen (.ref x) stored) Q E s:=by
 unfold searchCouldBeSeen;refine AA ?_;refine wpAny_forIn_list _ (λrest r s'=>r.1=none/\s'=s/\∀v∈rest,∃k' b,v=.ref b/\(tK prog w).is s.heap k' b) _ ?_ ?_ _ _ ⟨rfl,rfl,hs⟩
 ·rintro v rest r s' ⟨hr,rfl,hall⟩;obtain⟨k',b,rfl,hb⟩:=hall v aM;have nx:∀u∈rest,∃k' b,u=.ref b/\(tK prog w).is s'.heap k' b:=λu hu=>hall u (aH _ hu)
  dsimp only
  by_cases hxb:(x==b)=true
  ·rw[hxb];simp only[Bool.true_or,if_true];exact AC ⟨rfl,rfl,nx⟩
  ·have hxb:(x==b)=false:=by simpa using hxb
   rw[hxb];simp only[Am,oJ,Bool.or_self,aZ,if_false];refine AA<|(tK prog w).quiet hx ?_;simp only[iX,aZ,if_false];refine AA<|(tK prog w).quiet hb ?_;simp only[iX,aZ,if_false];refine AA<|aGG hx ?_;simp only[aZ,if_false];refine AA<|aGG hb ?_;simp only[aZ,if_false];exact AC ⟨rfl,rfl,nx⟩
 ·rintro⟨r1,r2⟩ s' ⟨hr,rfl,_⟩;simp only at hr;subst hr;exact AC h
theorem xJ{a x:BC}{o:BF}{kx:List Key}{T:List iC}{t:BI}{es:Array (Int×BA)}{ep:Nat}{Q:SetFound->BB->Prop}(hu:A.units<AN)(ho:s.heap.get? a=some o)(hd:o.data=.set es ep t)(X:TabT (tK prog w).hash t es T)(fit:t.fits es.size=true)
  (hx:(tK prog w).is s.heap kx x) (hk:∀r∈T,(tK prog w).is s.heap r.2.1 r.2.2) {e:Nat} (he:(pr t.mask ((tK prog w).hash kx) e).j∉T.map (·.1)) (hl:∀i,i<e->(pr t.mask ((tK prog w).hash kx) i).j∈T.map (·.1)) (h10:e<10*eS t.mask)
  (q1:kx∈T.map (·.2.1)->Q (.there none) s) (q2:kx∉T.map (·.2.1)->Q (.free (pr t.mask ((tK prog w).hash kx) e).j false) s):∀ (fuel n:Nat) (stand:Option SetTable.Probe),stand.getD (t.probeStart<|(tK prog w).hash kx)=pr t.mask ((tK prog w).hash kx) n->n<=e->e-n<fuel->(∀r∈T,r.2.1=kx->∃i,n<=i/\i<e/\(pr t.mask ((tK prog w).hash kx) i).j=r.1)->
   AE (AF prog w) A (setSearchFrom a (.ref x) ((tK prog w).hash kx) true fuel stand) Q E s
 |0,n,stand,e1,h1,h2,h3=>by omega
 |fuel+1,n,stand,e1,h1,h2,h3=>by
  unfold setSearchFrom;refine AA<|Ah ho hd fit ?_;dsimp only
  have gw:t.gaveWay=false:=by
   unfold SetTable.gaveWay
   rcases X.om with q|q|q|q|q<;>rw[q]<;>rfl
  rw[gw];simp only[aZ,if_false]
  have hAt:∀B r C,T=B++r::C->es[B.length]? =some ((tK prog w).hash r.2.1,Value.ref r.2.2):=λB r C q=>by rw[X.en,q];simp
  rw[e1];generalize hf:t.probe _ ((tK prog w).hash kx) (pr t.mask ((tK prog w).hash kx) n)=met;obtain⟨F,hF,hf⟩:∃F:Nat->Int,(∀i,F i=((es[i]?).map (·.1)).getD 0)/\t.probe F ((tK prog w).hash kx) (pr t.mask ((tK prog w).hash kx) n)=met:=⟨_,λi=>rfl,hf⟩;unfold fD at hf
  obtain ⟨k,k1,k2,k3,k4⟩:=aCE X (hashAt:=F) (fun B r C q=>by
   have:=hAt B r C q;rw[hF,this]
   rfl) ((tK prog w).hash kx) (10*eS t.mask) n e h1 (by omega) he
  rcases k4 with⟨hm,hg⟩|⟨B,r,C,eT,hj,hh,hg⟩
  ·rw[hg] at hf;subst hf;dsimp only
   have ke:k=e:=by
    rcases cW k2 with z|z
    ·exact absurd (hl k z) hm
    ·exact z
   subst ke;refine AC<|q2 λhc=> ?_;obtain⟨r,hr,er⟩:=bA.mp hc;obtain⟨i,i1,i2,i3⟩:=h3 r hr er;exact(k3 i i1 i2).2 r hr i3.symm (by rw[er])
  ·rw[hg] at hf;subst hf;dsimp only;have hr:r∈T:=by rw[eT];simp
   have hei:=hAt B r C eT;have hsl:=X.slot_live eT;rw[hj] at hsl;have sm:t.sameMemory t.moves t.mask=some true:=by unfold SetTable.sameMemory;simp
   have hke:k<e:=by
    rcases cW k2 with z|z
    ·exact z
    ·subst z;exact absurd (hj▸bT hr) he
   cases hled:t.led with
   |true=>
    simp only[iX,aZ,if_false];rw[hei];dsimp only;refine AA (AO<|(tK prog w).eqBool hu (hk r hr) hx ?_);refine AA<|Ah ho hd fit ?_;dsimp only
    by_cases hkx:r.2.1=kx
    ·rw[decide_eq_true hkx];simp only[zU,if_true];exact AC (q1<|hkx▸bT hr)
    ·rw[decide_eq_false hkx];simp only[xG,aZ,if_false];rw[sm];dsimp only;rw[if_pos rfl,hsl];dsimp only;rw[hei];dsimp only;refine AA<|wpAny_isSame_ref_self ?_;refine AA<|AC ?_;simp only[if_true];refine xJ hu ho hd X fit hx hk he hl h10 q1 q2 fuel (k+1) (some _) rfl (by omega) (by omega) λr' hr' e'=> ?_
     obtain⟨i,i1,i2,i3⟩:=h3 r' hr' e';refine⟨i, ?_,i2,i3⟩
     rcases jV i k with z|z
     ·exact absurd (by rw[e'])<|(k3 i i1 z).2 r' hr' i3.symm
     ·rcases cW z with z|z
      ·exact z
      ·exfalso;subst z;have:r'=r:=X.same_row hr' hr<|i3.symm.trans hj.symm;rw[this] at e';exact hkx e'
   |false=>
    simp only[xH,if_true];refine AA<|aNG hx (λv hv=> ?_) ?_
    ·obtain⟨p,hp,rfl⟩:=bA.mp hv
     have hp':p∈es.toList:=by have:=iY.mp hp;exact iY.mpr (Array.mem_filter.mp this).1
     rw[X.en] at hp';obtain⟨r2,h2',rfl⟩:=bA.mp (by simpa using hp':p∈T.map λr=>((tK prog w).hash r.2.1,Value.ref r.2.2));exact⟨r2.2.1,r2.2.2,rfl,hk r2 h2'⟩
    simp only[aZ,if_false];rw[hei];dsimp only;refine AA (AO<|(tK prog w).eqBool hu (hk r hr) hx ?_);refine AA<|Ah ho hd fit ?_;dsimp only
    by_cases hkx:r.2.1=kx
    ·rw[decide_eq_true hkx];simp only[zU,if_true];exact AC (q1<|hkx▸bT hr)
    ·rw[decide_eq_false hkx];simp only[xG,aZ,if_false];rw[sm];dsimp only;rw[if_pos rfl,hsl];dsimp only;rw[hei];dsimp only;refine AA<|wpAny_isSame_ref_self ?_;refine AA<|AC ?_;simp only[if_true];refine xJ hu ho hd X fit hx hk he hl h10 q1 q2 fuel (k+1) (some _) rfl (by omega) (by omega) λr' hr' e'=> ?_
     obtain⟨i,i1,i2,i3⟩:=h3 r' hr' e';refine⟨i, ?_,i2,i3⟩
     rcases jV i k with z|z
     ·exact absurd (by rw[e'])<|(k3 i i1 z).2 r' hr' i3.symm
     ·rcases cW z with z|z
      ·exact z
      ·exfalso;subst z;have:r'=r:=X.same_row hr' hr<|i3.symm.trans hj.symm;rw[this] at e';exact hkx e'
noncomputable def aMG:BA->Bool
 |.none | .bool _ | .int .. =>true
 |.float bits _=>(Float64.hash? bits).isSome
 |_=>false
theorem aBq(d:Nat){v:BA}(h:Am v=true):hashByValue d v=pure (aMG v):=by cases v<;>first|rfl|(cases d<;>rfl)|(simp[Am] at h)
theorem aEg{ks:List Key}{vs:List BA}(h:ItemsAre (dJ prog w) ks vs):(∀k∈ks,∃i,k=Sum.inl i)->∀v∈vs,∃i t,v=.int i t:=by
 induction h with
 |nil=>intro _ v hv;simp at hv
 |@cons k v ks vs h1 _ ih=>
  intro hk u hu
  rcases aG.mp hu with rfl|hu
  ·obtain⟨i,rfl⟩:=hk k aM
   rcases eM (show tW (Sum.inl i) u=true from h1) with⟨i',t,e,rfl⟩|⟨x,t,e,_⟩
   ·exact⟨i',t,rfl⟩
   ·cases e
  ·exact ih (λz hz=>hk z<|aH _ hz) u hu
theorem hbvT{x:BC}{k:List Key}{Q:Bool->BB->Prop}(hx:(tK prog w).is s.heap k x)(h:∀b,((∀z∈k,∃i,z=Sum.inl i)->b=true)->Q b s):AE (AF prog w) A (hashByValue 8<|.ref x) Q E s:=by
 have hk:IsTupleKey (dJ prog w) s.heap k x:=hx;have hT:=hk.typeIs;obtain⟨o,items,n,ho,hc,hd,hi⟩:=hk;unfold hashByValue;refine AA<|wpAny_specialOf hT F.slot_tuple_hash.lookup ?_;dsimp only;refine AA<|AW ho hd ?_;dsimp only[Option.getD];refine AA ?_;rw[<-aEM];have h0:(∀z∈k,∃i,z=Sum.inl i)->∀v∈items.toList,∃i t,v=Value.int i t:=aEg hi;refine wpAny_forIn_list _ (λrest r s'=>s'=s/\r.1=none/\(∀v∈rest,Am v=true)/\((∀z∈k,∃i,z=Sum.inl i)->∀v∈rest,∃i t,v=Value.int i t)) _ ?_ ?_ _ _ ⟨rfl,rfl,hi.byValue,h0⟩
 ·rintro v rest r s' ⟨rfl,hr,hall,hint⟩;have hb:=aBq 7 (hall v aM)
  have hb2:(∀z∈k,∃i,z=Sum.inl i)->aMG v=true:=λz=>by obtain⟨i,t,rfl⟩:=hint z v aM;rfl
  generalize aMG v=b at hb hb2;rw[hb];refine AA<|AC ?_;cases b with
  |true=>simp only[iX,aZ,if_false];exact AC ⟨rfl,rfl,λu hu'=>hall u<|aH _ hu',λz u hu'=>hint z u<|aH _ hu'⟩
  |false=>simp only[xH,if_true];exact AC (AC<|h _ hb2)
 ·rintro⟨r1,r2⟩ s' ⟨rfl,hr,_⟩;simp only at hr;subst hr;exact AC<|h _ λ_=>rfl
def SzT(m n:Nat):Prop:=(m=7->n<=4)/\(m=31->n<=18)/\m≠63/\m≠255
theorem SzT.fit{m n:Nat}(z:SzT m n)(om:okM m)(h:n<=72):n<=m:=by
 obtain⟨s1,s2,s3,s4⟩:=z
 rcases om with q|q|q|q|q
 ·have:=s1 q;omega
 ·have:=s2 q;omega
 ·exact absurd q s3
 ·omega
 ·exact absurd q s4
def SetT(prog:AD)(w:AG)(ip:Bool)(o:BF)(T:List iC):Prop:=∃ (es:Array (Int×BA)) (ep:Nat) (t:BI),o={cls:=.type "set",dict:=none,data:=.set es ep t}/\TabT (tK prog w).hash t es T/\SzT t.mask T.length/\t.led= !byT w/\(ip=true->t.plain=true)
theorem TabT.size(X:TabT hs t es T):es.size=T.length:=by rw[X.en];simp
theorem TabT.fill(X:TabT hs t es T):t.fill=T.length:=by unfold SetTable.fill;rw[X.pl,X.du];simp
theorem TabT.fit(X:TabT hs t es T)(hl:T.length<=t.mask):t.fits es.size=true:=by
 have e1:=X.size;have e2:=X.fill;have e3:t.place.size=T.length:=by rw[X.pl];simp
 unfold SetTable.fits;simp only[aR,beq_iff_eq,decide_eq_true_eq];exact⟨by rw[e3,e1],by rw[e2];exact hl⟩
theorem aHg{a:BC}{o:BF}{ep:Nat}{Q:Unit->BB->Prop}(ho:s.heap.get? a=some o)(ho':o={cls:=.type "set",dict:=none,data:=.set es ep t})(X:TabT (tK prog w).hash t es T){n m m':Nat}(hl:T.length=n)(hm:t.mask=m)(nm:n<=m)(om:okM m')(nm':n<=m')(n9:n<=1000)(m9:m'<=1000)(sa:SetTable.sizeAbove (mS n)=m'+1)
  (h:∀ (es':Array (Int×BA)) (ep':Nat) (t':BI) (T':List iC) (h':BE),Heap.SameBut a s.heap h'->h'.get? a=some {cls:=.type "set",dict:=none,data:=.set es' ep' t'}->TabT (tK prog w).hash t' es' T'->t'.mask=m'->t'.led=t.led->t'.plain=t.plain->T'.length=n->(T'.map (·.2)).Perm (T.map (·.2))->Q () {s with heap:=h'}):
  AE (AF prog w) A (setRelay a<|mS n) Q E s:=by
 subst ho';have fit:=X.fit (by omega);obtain⟨t',ord,T',e1,m1,_,ld1,pn1,X',l',p'⟩:=aIF (hs:=(tK prog w).hash) (T:=T) (m:=m') om (by omega) X.kn t.finger (t.movedTo m') t.led t.plain;have ee:es=(T.map<|gT (tK prog w).hash).toArray:=X.en;unfold setRelay;refine AA<|Ah ho rfl fit ?_;dsimp only;rw[sa,AM];rw[if_neg (show ¬ (m'+1>16777216) by omega)];refine AA ?_
 have rl:t.relaid (es.map (·.1)) (mS n)=some (t',ord):=by unfold SetTable.relaid;rw[sa,ee];exact e1
 rw[rl,ee]
 have sz:(ord.filterMap ((T.map<|gT (tK prog w).hash).toArray[·]?)).size=(T.map<|gT (tK prog w).hash).toArray.size:=by rw[X'.size,l'];simp
 show AE _ _ (if((ord.filterMap ((T.map<|gT (tK prog w).hash).toArray[·]?)).size !=(T.map<|gT (tK prog w).hash).toArray.size)=true then _ else _) _ _ _;rw[sz];simp only[bne_self_eq_false,aZ,if_false];refine AC ?_;dsimp only;refine wpAny_storeSet_of ho rfl ?_ (by rw[sz,AM];simp;omega);have g1:=cZ (Obj.putSet (ord.filterMap ((T.map<|gT (tK prog w).hash).toArray[·]?)) t') ho (by rw[putSet_of _ _ rfl];rfl);rw[putSet_of _ _ rfl] at g1;exact h _ _ _ T' _ (Heap.SameBut.update s.heap a _) g1 X' m1 ld1 pn1 (by omega) p'
theorem aNs{a x:BC}{o:BF}{kx:List Key}{ip:Bool}{Q:Bool->BB->Prop}(hip:ip=true->∀z∈kx,∃i,z=Sum.inl i)(hu:A.units<AN)(hl:T.length<=72)(ho:s.heap.get? a=some o)(S:SetT prog w ip o T)(hk:∀r∈T,(tK prog w).is s.heap r.2.1 r.2.2)(hx:(tK prog w).is s.heap kx x)
  (h:∀ (b:Bool) (h':BE) (o':BF) (tk:Nat) (T':List iC),Heap.SameBut a s.heap h'->h'.get? a=some o'->SetT prog w ip o' T'->(∀p,p∈T'.map (·.2)->p=(kx,x)\/p∈T.map (·.2))->(∀k,k∈T'.map (·.2.1)↔k=kx\/k∈T.map (·.2.1))->Q b {s with heap:=h',toks:=tk}):AE (AF prog w) A (setAddHashed a (.ref x)<|(tK prog w).hash kx) Q E s:=by
 have S0:=S;obtain⟨es,ep,t,rfl,X,h7,hled,hpl0⟩:=S
 have lm:T.length<=t.mask:=by
  obtain⟨s1,s2,s3,s4⟩:=h7
  rcases X.om with q|q|q|q|q
  ·have:=s1 q;omega
  ·have:=s2 q;omega
  ·exact absurd q s3
  ·omega
  ·exact absurd q s4
 have fit:=X.fit lm;generalize htk:s.toks=tk;unfold setAddHashed setAddHashedIn;have es0:s={s with toks:=tk}:=by rw[<-htk]
 rw[es0];refine AO (AA<|Ah (s:={s with toks:=tk}) ho rfl fit ?_);dsimp only;have bs:byScan (.ref x) es=false:=rfl;rw[bs];simp only[aZ,if_false];obtain⟨e,e1,e2,e3⟩:=X.room lm<|(tK prog w).hash kx;unfold setSearch;refine AA<|xJ (s:={s with toks:=tk}) hu ho rfl X fit hx hk e2 e3 e1 (λhm=> ?_) (λhm=> ?_) 100000 0 none rfl (bU _) ?_ λr hr er=> ?_
 ·dsimp only;refine AC (h false s.heap _ _ T (Heap.SameBut.refl a s.heap) ho S0 (λp hp=>.inr hp) λk=>⟨λz=>.inr z,λz=> ?_⟩)
  rcases z with rfl|z
  ·exact hm
  ·exact z
 ·dsimp only;refine AA<|Ah (s:={s with toks:=tk}) ho rfl fit ?_;dsimp only;generalize hj:(pr t.mask ((tK prog w).hash kx) e).j=j;rw[hj] at e2;have jm:j<=t.mask:=hj▸(aME (m:=t.mask) ((tK prog w).hash kx) e).1
  rcases hp:t.put j with⟨t1,p⟩
  have fin:∀b:Bool,(ip=true→b=true)→AE (AF prog w) A (do
    storeSet a (fS es p ((tK prog w).hash kx,.ref x)) {t1 with plain:=b}
    if(!false&&rG {t1 with plain:=b})=true then setRelay a (mS<|es.size+1)
    return true) Q E {s with toks:=tk}:=λb hbt=>by
   obtain⟨B,C,eT,X2⟩:=X.put (a:=x) e2 jm hm ⟨e,hj,e3⟩ b;rw[hp] at X2;generalize hT2:B++(j,kx,x)::C=T2 at X2
   have mk1:({t1 with plain:=b}:BI).mask=t.mask:=by
    have:t1=(t.put j).1:=by rw[hp]
    rw[this];rfl
   have ld2:({t1 with plain:=b}:BI).led= !byT w:=by
    have:t1=(t.put j).1:=by rw[hp]
    rw[this];exact hled
   have pn2:ip=true->({t1 with plain:=b}:BI).plain=true:=hbt;generalize ({t1 with plain:=b}:BI)=t2 at X2 mk1 ld2 pn2 ⊢;dsimp only at X2;generalize hes2:fS es p ((tK prog w).hash kx,Value.ref x)=es2 at X2 ⊢
   have l2:T2.length=T.length+1:=by rw[<-hT2,eT];simp;omega
   have rw1:∀p,p∈T2.map (·.2)->p=(kx,x)\/p∈T.map (·.2):=λp hp=>by
    rw[<-hT2] at hp;rw[eT];simp only[aT,bB,aW,aG] at hp ⊢
    rcases hp with z|z|z
    ·exact .inr<|.inl z
    ·exact .inl z
    ·exact .inr<|.inr z
   have kw1:∀k,k∈T2.map (·.2.1)↔k=kx\/k∈T.map (·.2.1):=λk=>by
    rw[<-hT2,eT];simp only[aT,bB,aW,aG]
    constructor
    ·rintro(z|z|z)
     ·exact .inr<|.inl z
     ·exact .inl z
     ·exact .inr<|.inr z
    ·rintro(z|z|z)
     ·exact .inr<|.inl z
     ·exact .inl z
     ·exact .inr<|.inr z
   refine AA (wpAny_storeSet_of (s:={s with toks:=tk}) ho rfl ?_<|by rw[X2.size,AM];omega);have g1:=cZ (Obj.putSet es2 t2) ho (by rw[putSet_of _ _ rfl];rfl);rw[putSet_of _ _ rfl] at g1
   have tf:rG t2=decide (T2.length*5>=t.mask*3):=by unfold rG;rw[X2.fill,mk1]
   rw[tf]
   by_cases hc:T2.length*5>=t.mask*3
   ·rw[decide_eq_true hc];simp only[xH,zU,if_true];obtain⟨s1,s2,s3,s4⟩:=h7
    rcases X.om with q|q|q|q|q
    ·have:=s1 q
     have ln:T2.length=5:=by rw[q] at hc;omega
     have sn:es.size+1=5:=by rw[X.size];omega
     rw[sn];refine AA<|aHg (n:=5) (m:=7) (m':=31) (s:={s with heap:=s.heap.update a<|Obj.putSet es2 t2,toks:=tk}) g1 rfl X2 ln (by rw[mk1,q]) (by decide) (.inr<|.inl rfl) (by decide) (by decide) (by decide) (by decide+kernel) λes' ep' t' T' h' sb g2 X' m' ld' pn' l' pm=>AC ?_;refine h true h' _ tk T' ((Heap.SameBut.update s.heap a _).trans sb) g2 ⟨es',ep',t',rfl,X',⟨λz=>by omega,λz=>by omega,by omega,by omega⟩,ld'.trans ld2,λz=>pn'.trans<|pn2 z⟩ (λp hp=>rw1 p<|pm.mem_iff.mp hp) λk=> ?_
     have pk:(T'.map (·.2.1)).Perm (T2.map (·.2.1)):=by have:=pm.map (·.1);rw[cJ,cJ] at this;exact this
     rw[pk.mem_iff];exact kw1 k
    ·have:=s2 q
     have ln:T2.length=19:=by rw[q] at hc;omega
     have sn:es.size+1=19:=by rw[X.size];omega
     rw[sn];refine AA<|aHg (n:=19) (m:=31) (m':=127) (s:={s with heap:=s.heap.update a<|Obj.putSet es2 t2,toks:=tk}) g1 rfl X2 ln (by rw[mk1,q]) (by decide) (.inr<|.inr (.inr<|.inl rfl)) (by decide) (by decide) (by decide) (by decide+kernel) λes' ep' t' T' h' sb g2 X' m' ld' pn' l' pm=>AC ?_;refine h true h' _ tk T' ((Heap.SameBut.update s.heap a _).trans sb) g2 ⟨es',ep',t',rfl,X',⟨λz=>by omega,λz=>by omega,by omega,by omega⟩,ld'.trans ld2,λz=>pn'.trans<|pn2 z⟩ (λp hp=>rw1 p<|pm.mem_iff.mp hp) λk=> ?_
     have pk:(T'.map (·.2.1)).Perm (T2.map (·.2.1)):=by have:=pm.map (·.1);rw[cJ,cJ] at this;exact this
     rw[pk.mem_iff];exact kw1 k
    ·exact absurd q s3
    ·rw[q] at hc;omega
    ·exact absurd q s4
   ·rw[decide_eq_false hc];simp only[xG,aZ,if_false];refine AA (AC<|AC ?_);refine h true _ _ tk T2 (Heap.SameBut.update s.heap a _) g1 ⟨es2,_,t2,rfl,X2,⟨λz=>by rw[mk1] at z;rw[z] at hc;omega,λz=>by rw[mk1] at z;rw[z] at hc;omega,by rw[mk1];exact h7.2.2.1,by rw[mk1];exact h7.2.2.2⟩,ld2,pn2⟩ rw1 kw1
  cases hpl:t1.plain with
  |true=>
   simp only[hpl,if_true];refine AA<|hbvT (s:={s with toks:=tk}) hx λb hb=> ?_;cases b with
   |true=>
    simp only[if_true];have:=fin true λ_=>rfl
    rw[show({t1 with plain:=true}:BI)=t1 by rw[<-hpl]] at this;exact this
   |false=>simp only[aZ,if_false];exact fin false λz=>hb<|hip z
  |false=>
   simp only[hpl,aZ,if_false];refine AA<|AC ?_;simp only[if_true]
   have:=fin false λz=>by
    have e:t1.plain=t.plain:=by
     have:t1=(t.put j).1:=by rw[hp]
     rw[this];rfl
    rw[e,hpl0 z] at hpl;cases hpl
   rw[show({t1 with plain:=false}:BI)=t1 by rw[<-hpl]] at this;exact this
 ·have:eS t.mask<=1000:=by rcases X.om with q|q|q|q|q<;>rw[q]<;>decide
  omega
 ·obtain⟨n,n1,n2⟩:=X.ahead hr (e:=e) (by rw[er];exact e2);rw[er] at n2;exact⟨n,bU _,n1,n2⟩
theorem addT{a x:BC}{o:BF}{kx:List Key}{ip:Bool}{Q:Bool->BB->Prop}(hip:ip=true->∀z∈kx,∃i,z=Sum.inl i)(hu:A.units<AN)(hl:T.length<=72)(ho:s.heap.get? a=some o)(S:SetT prog w ip o T)(hk:∀r∈T,(tK prog w).is s.heap r.2.1 r.2.2)(hx:(tK prog w).is s.heap kx x)
  (h:∀ (b:Bool) (h':BE) (o':BF) (tk:Nat) (T':List iC),Heap.SameBut a s.heap h'->h'.get? a=some o'->SetT prog w ip o' T'->(∀p,p∈T'.map (·.2)->p=(kx,x)\/p∈T.map (·.2))->(∀k,k∈T'.map (·.2.1)↔k=kx\/k∈T.map (·.2.1))->Q b {s with heap:=h',toks:=tk}):AE (AF prog w) A (setAdd a<|.ref x) Q E s:=by
 unfold setAdd;refine AO (AA<|(tK prog w).pyHash hu hx ?_);exact aNs (s:={s with toks:=s.toks+(tK prog w).draws kx}) hip hu hl ho S hk hx h
theorem aDp{vs:List (List Key)}{n:Nat}(nd:(T.map (·.2.1)).Nodup)(h:∀k,k∈T.map (·.2.1)↔k∈vs)(hn:vs.length<=n):T.length<=n:=by
 have:=nd.length_le_of_subset λk hk=>(h k).mp hk
 rw[aD] at this;omega
theorem uL{h h':BE}{x:BC}{k:List Key}(hx:(tK prog w).is h k x)(kp:∀o,h.get? x=some o->h'.get? x=some o):(tK prog w).is h' k x:=by obtain⟨o,items,n,ho,hc,hd,hi⟩:=(show IsTupleKey (dJ prog w) h k x from hx);exact(show IsTupleKey (dJ prog w) h' k x from⟨o,items,n,kp _ ho,hc,hd,hi⟩)
theorem SetT.nd{ip:Bool}{o:BF}(S:SetT prog w ip o T):(T.map (·.2.1)).Nodup:=by obtain⟨es,ep,t,_,X,_,_,_⟩:=S;exact X.kn
theorem aNj{R:Result->BB->Prop}{I S:BC}{fp wr:List BC}{n:Nat}{P:Nat->BA->Prop}{St:Nat->BE->Prop}(hu:A.in1.units<AN)(W:Walks prog w A.in1 I fp wr n P St)(hSf:S∉fp)(vs:List (List Key)){ip:Bool}(hip:ip=true->∀k∈vs,∀z∈k,∃i,z=Sum.inl i)(hn:vs.length=n)(h16:n<=72)(h0:BE)
  (hval:∀i v,P i v->∃x,v=.ref x/\x≠S/\x∉wr/\(tK prog w).is h0 (vs.getD i []) x):∀ (m i:Nat) (s:BB) (o:BF) (T:List iC),n-i=m->i<=n->St i s.heap->s.heap.get? S=some o->SetT prog w ip o T->(∀k,k∈T.map (·.2.1)↔k∈vs.take i)->(∀p∈T.map (·.2),p.2≠S/\p.2∉wr/\(tK prog w).is h0 p.1 p.2/\∃i,P i (.ref p.2)/\vs.getD i []=p.1)->(∀b x,b≠S->b∉wr->h0.get? b=some x->s.heap.get? b=some x)->
   (∀h' tk o' T',(∀b x,b≠S->b∉wr->s.heap.get? b=some x->h'.get? b=some x)->h'.get? S=some o'->SetT prog w ip o' T'->(∀k,k∈T'.map (·.2.1)↔k∈vs)->(∀p∈T'.map (·.2),∃i,P i (.ref p.2)/\vs.getD i []=p.1)->R (.ok<|.ret .none) {s with heap:=h',toks:=tk})->
   codeAny (AF prog w) A (.builtin "set.update.loop" ⟨[.ref S,.ref I],[]⟩) R s:=by
 have hSw:S∉wr:=λh=>hSf<|W.sub _ h
 intro m
 induction m with
 |zero=>
  intro i s o T hm hi st ho sm kt rt k0 k;have e:i=n:=by omega
  subst e;refine Av F.entry_set_update_loop ?_;rw[Around.under_plainId F.plain_set_update_loop];refine AA<|W.done s _ _ st λh' tk kp=>AC ?_;rw[<-hn,mI] at kt;exact k h' tk o T (λb x _ hb g=>kp b x hb g) (kp S o hSw ho) sm kt λp hp=>(rt p hp).2.2.2
 |succ m ih=>
  intro i s o T hm hi st ho sm kt rt k0 k;have hlt:i<n:=by omega
  have hlt':i<vs.length:=by omega
  refine Av F.entry_set_update_loop ?_;rw[Around.under_plainId F.plain_set_update_loop];refine AA<|W.item i s _ _ hlt st λv h' tk hP st' kp=> ?_;obtain⟨x,rfl,xS,xw,hx⟩:=hval i v hP;have vi:vs.getD i []=vs[i]:=by simp[dS,hlt']
  have tk1:vs.take (i+1)=vs.take i++[vs.getD i []]:=by rw[iK,vi];simp[hlt']
  have k1:∀b x,b≠S->b∉wr->h0.get? b=some x->h'.get? b=some x:=λb x h1 h2 g=>kp b x h2<|k0 b x h1 h2 g
  have tl:T.length<=72:=aDp sm.nd kt (by rw[eC];omega);refine AA (AO<|addT (s:={s with heap:=h',toks:=tk}) (λz=>hip z _<|by rw[vi];exact dE hlt') hu tl (kp S o hSw ho) sm (λr hr=> ?_) (uL hx λo g=>k1 x o xS xw g) λb h2 o2 tk2 T2 sb g2 sm2 rt2 kt2=> ?_)
  ·obtain⟨q1,q2,q3,_⟩:=rt r.2<|bT hr;exact uL q3 λo g=>k1 _ o q1 q2 g
  ·refine AC ⟨plainId_quiet F.plain_set_update_loop _,ih (i+1) _ o2 T2 (by omega) hlt (W.frame _ _ _ st' λb hb x g=> ?_) g2 sm2 (λk=> ?_) (λp hp=> ?_) (λb x h1 h3 g=> ?_) λh3 tk3 o3 T3 kp3 g3 sm4 kt4 rt4=> ?_⟩
   ·rw[sb.2 b λz=>hSf<|z▸hb];exact g
   ·rw[kt2,kt,tk1,aW,bX];exact⟨λz=>z.symm,λz=>z.symm⟩
   ·rcases rt2 p hp with rfl|z
    ·exact⟨xS,xw,hx,i,hP,rfl⟩
    ·exact rt p z
   ·rw[sb.2 b h1];exact k1 b x h1 h3 g
   ·refine k h3 tk3 o3 T3 (λb x h1 h2 g=>kp3 b x h1 h2 ?_) g3 sm4 kt4 rt4;rw[sb.2 b h1];exact kp b x h2 g
theorem aNH{ip:Bool}:SetT prog w ip (yX w) []:=⟨#[],0,aMI (!byT w) [],rfl,⟨.inl rfl,rfl,rfl,rfl,List.Pairwise.nil,λr h=>(by cases h),λr h=>(by cases h),fA⟩,⟨λ_=>bU _,λ_=>bU _,by show(7:Nat)≠63;decide,by show(7:Nat)≠255;decide⟩,rfl,λ_=>rfl⟩
theorem aNC{R:Result->BB->Prop}{S l:BC}{items:Array BA}(hu:A.in1.in1.units<AN)(vs:List (List Key)){ip:Bool}(hip:ip=true->∀k∈vs,∀z∈k,∃i,z=Sum.inl i)(hn:vs.length=items.size)(h16:items.size<=72)(hi:∀ (i:Nat) (v:BA),items[i]? =some v->∃x,v=.ref x/\x≠S/\(tK prog w).is s.heap (vs.getD i []) x)(hh:A.handled=none)
  (ho:s.heap.get? S=some (yX w)) (ht:s.heap.IsList l items)
  (k:∀h' tk o' T',(∀b x,b≠S->s.heap.get? b=some x->h'.get? b=some x)->h'.get? S=some o'->SetT prog w ip o' T'->(∀k,k∈T'.map (·.2.1)↔k∈vs)->(∀p∈T'.map (·.2),∃i:Nat,items[i]? =some (.ref p.2)/\vs.getD i []=p.1)->R (.ok<|.ret .none) {s with heap:=h',toks:=tk}):
  AE (AF prog w) A.in1 (Builtin.«set.__init__» ⟨[.ref S,.ref l],[]⟩) (λfin s'=>match fin with | .done f=>R (.ok f) s' | .again c'=>c'.quiet=true/\codeAny (AF prog w) A c' R s') (λe s'=>R (.error e) s') s:=by
 obtain⟨ol,hol,hcl,nl,hdl⟩:=id ht;obtain⟨ocls,odict,odata,oslots⟩:=ol;simp only at hcl hdl;subst hcl hdl;have q1:=aAb;have q2:=aBk;have q3:(Value.type "list"==Value.type "dict")=false:=by decide
 have hT:Shared.TypeIs s (.ref S) "set":=⟨_,ho,rfl⟩
 have hSl:S≠l:=λz=>by rw[z,hol] at ho;have q:(Value.type "list")=Value.type "set":=congrArg Obj.cls<|cC.inj ho;exact absurd q<|by decide
 unfold Builtin.«set.__init__» noKeywords Builtin.Frozenset.updateFrom;generalize pI:pyIter=PI
 wp_walk
 subst pI;refine Ap (show s.heap.IsList l items from ht) (AA<|wpAny_runValue ?_);have lS:l<s.heap.objs.size:=aK hol;have sS:S<s.heap.objs.size:=aK ho;refine aNj (n:=items.size) (P:=λi v=>items[i]? =some v) hu (Walks.list (A:=A.in1.in1) (by simpa using hh) s.heap.objs.size l (bG lS) items) (λz=> ?_) vs hip hn h16 s.heap (λi v hv=> ?_) (items.size-0) 0 _ (yX w) [] rfl (bU _) ⟨⟨_,aY _ rfl,rfl,rfl⟩,ht.push _⟩ (aC _ ho) aNH (λk=>by simp) (λp hp=>by cases hp) (λb x h1 h2 g=>aC _ g) λh' tk o' T' kp g sm kt rt=> ?_
 ·rcases aG.mp z with z|z
  ·exact bG sS z
  ·exact hSl (by simpa using z)
 ·obtain⟨x,e,xS,hx⟩:=hi i v hv;obtain⟨o,_,_,hxo,_⟩:=(show IsTupleKey (dJ prog w) s.heap _ x from hx);exact⟨x,e,xS,λz=>absurd (aK hxo) (by rw[show x=s.heap.objs.size by simpa using z];exact eZ _),hx⟩
 ·refine AC (AC<|k h' tk o' T' (λb x h1 g=>kp b x h1 (λz=> ?_)<|aC _ g) g sm kt rt);have z:b=s.heap.objs.size:=by simpa using z
  exact absurd (aK g) (by rw[z];exact eZ _)
theorem aNn{Q:BA->BB->Prop}{l:BC}{items:Array BA}(hu:A.units+8<AN)(vs:List (List Key)){ip:Bool}(hip:ip=true->∀k∈vs,∀z∈k,∃i,z=Sum.inl i)(hn:vs.length=items.size)(h16:items.size<=72)(hi:∀ (i:Nat) (v:BA),items[i]? =some v->∃x,v=.ref x/\(tK prog w).is s.heap (vs.getD i []) x)(hh:A.handled=none)(ht:s.heap.IsList l items)
  (k:∀h' tk o' T',(∀b x,s.heap.get? b=some x->h'.get? b=some x)->h'.get? s.heap.objs.size=some o'->SetT prog w ip o' T'->(∀k,k∈T'.map (·.2.1)↔k∈vs)->(∀p∈T'.map (·.2),∃i:Nat,items[i]? =some (.ref p.2)/\vs.getD i []=p.1)->Q (.ref s.heap.objs.size) {s with heap:=h',toks:=tk}):
  AE (AF prog w) A (call (.type "set") [.ref l]) Q E s:=by
 obtain⟨c,tl,m1⟩:=F.called_set.mro;have m2:=F.called_set.made;have m3:=F.called_set.sub;refine wpAny_call<|codeAny_of_tree (show AE _ _ (callAny (.type "set") _) _ _ _ from ?_);refine AC ⟨Code.quiet_builtin _<|by decide+kernel,Av F.entry_type_call ?_⟩;rw[Around.under_plain (weight_type_call_type "set" [Value.ref l] []) rfl];have m4:=F.called_set.notType;have m5:=F.called_set.canCreate;have m6:=F.typeCall_set_1<|.ref l
 repeat (any_goals (first|assumption|wp_step))
 refine Ag (newK (.ref l) (E:=E) (Q₁:=λob s1=>ob=.ref s.heap.objs.size/\s1={s with heap:=s.heap.push (yX w)}) ⟨rfl,rfl⟩) λr s1 hr=> ?_
 cases r with
 |error e=>exact hr
 |ok fl=>
  cases fl with
  |ret ob=>
   obtain⟨rfl,rfl⟩:=hr;have ho:(s.heap.push<|yX w).get? s.heap.objs.size=some (yX w):=aY _ rfl;have hT:Shared.TypeIs {s with heap:=s.heap.push (yX w)} (.ref s.heap.objs.size) "set":=⟨_,ho,rfl⟩;have m7:=F.called_set.init.lookup;have m8:=F.called_set.init.bind<|.ref s.heap.objs.size
   repeat (any_goals (first|assumption|wp_step))
   refine Ag (Ab (R:=wants (λr s2=>r=.none/\∃h' tk o' T',s2={s with heap:=h',toks:=tk}/\(∀b x,s.heap.get? b=some x->h'.get? b=some x)/\h'.get? s.heap.objs.size=some o'/\SetT prog w ip o' T'/\(∀k,k∈T'.map (·.2.1)↔k∈vs)/\(∀p∈T'.map (·.2),∃i:Nat,items[i]? =some (.ref p.2)/\vs.getD i []=p.1)) E) F.called_set.init.plain F.entry_set_init<|check_set_init_1 hT ?_) λr2 s2 hr2=> ?_
   ·refine aNC (s:={s with heap:=s.heap.push (yX w)}) (by simp only[Around.in1];omega) vs hip hn h16 (λi v hv=> ?_) (by simpa using hh) ho (ht.push _) λh' tk o' T' kp g sm kt rt=> ?_
    ·obtain⟨x,e,hx⟩:=hi i v hv;obtain⟨o,_,_,hxo,_⟩:=(show IsTupleKey (dJ prog w) s.heap _ x from hx);exact⟨x,e,bG<|aK hxo,uL hx λo g=>aC _ g⟩
    ·exact⟨rfl,h',tk,o',T',rfl,λb x gx=>kp b x (bG<|aK gx)<|aC _ gx,g,sm,kt,rt⟩
   ·cases r2 with
    |error e=>exact hr2
    |ok fl2=>
     cases fl2 with
     |ret r=>
      obtain⟨rfl,h',tk,o',T',rfl,kp,g,sm,kt,rt⟩:=hr2
      repeat (any_goals (first|assumption|wp_step))
      exact k _ _ _ _ kp g sm kt rt
     |_=>exact hr2.elim
  |_=>exact hr.elim
variable {X:Cx}{sd:List Slot}{e:Expr}{pos:Pos}
theorem aEw{p p2 q2:Pos}{ks:List (List Key)}{n:Nat}(hu:X.A.units+10<AN)(hg:Gl X "len")(hm:X.mg "len"=none)(hg2:Gl X "set")(hm2:X.mg "set"=none)(ha:PEd X sd e (.val<|.lst (ks.map λk=>D.tup<|k.map kD)))(h16:ks.length<=72)(hn:∀T:List (List Key),T.Nodup->(∀k,k∈T↔k∈ks)->T.length=n)
  (hc:X.calm=true:=by rfl) (hst:AB [e] X.env=(false,eval e X.env)::AB [] X.env:=by rfl) (hst2:AB [.Call (.Name "set" p2) [e] [] q2] X.env=(false,eval (.Call (.Name "set" p2) [e] [] q2) X.env)::AB [] X.env:=by rfl):
  PEd X sd (.Call (.Name "len" p) [.Call (.Name "set" p2) [e] [] q2] [] pos) (.val<|.int (n:Int)):=.mk λσ F H S pins s I=>by
 refine AZ<|nE I hg hm PySem.boot_len ?_;refine PyProof.Rows.callWith_builtin1 ?_ hst2 rfl;rw[hst2];refine Calls.spliced_cons (AZ<|nE I hg2 hm2 PyProof.Rows.boot_set ?_);refine PyProof.Rows.callWith_type1 (thn ((eF (te:=wE X e) dH pa_nil hst) q2 pins s σ H (λus H1=>∃v F1,us=[v]/\StF X.K X.B₀ F1 H1 σ sd/\Same F F1/\ResOk X.K F1 H1 sd (.val<|.lst (ks.map λk=>D.tup<|k.map kD)) v) I<|(ha σ F H S).imp λv H1 ⟨F1,S1,s1,q1⟩=>⟨v,F1,rfl,S1,s1,q1⟩) λus s1 hus=> ?_) hst rfl;obtain⟨ws,H1,I1,rv,v,F1,rfl,S1,sF,q1⟩:=hus;obtain⟨u,rfl,ru⟩:=mG rv;simp only[ResOk,Rep] at q1;obtain⟨l,xs,rfl,hl,rl⟩:=q1;cases ru;obtain⟨its,rv2,ht0,hz⟩:=I1.list (.of<|S1.sub _ _ hl);have ht:s1.heap.IsList l its.toArray:=ht0.isList;have lx:xs.length=ks.length:=by rw[rl.len,aD]
 have ln:its.length=ks.length:=by rw[<-rv2.length,lx]
 refine aNn (by omega) ks (ip:=false) (λz=>nomatch z) (by simpa using ln.symm) (by simpa[ln] using h16) (λi v hv=> ?_) (I1.ok.hd hc) ht λh' tk o' T kp g sm kt _=> ?_
 ·have hv':its[i]? =some v:=by simpa using hv
  have hi:i<ks.length:=by rw[<-ln];exact(bF.mp hv').1
  obtain⟨x,hx,rx⟩:=rl.get (i:=i) (d:=D.tup<|(ks[i]).map kD) (by rw[bQ,bN hi];rfl);obtain⟨u,hu',ru⟩:=rv2.get hx;rw[hv'] at hu';cases hu';simp only[Rep] at rx;obtain⟨a,ys,rfl,fa,ry⟩:=rx;have ey:=aAk ry;subst ey;cases ru;refine⟨a,rfl, ?_⟩;have e:ks.getD i []=ks[i]:=by simp[dS,hi]
  rw[e];exact aBP I1.hok<|S1.sub _ _ fa
 ·refine Calls.spliced_nil ?_;obtain⟨es,ep,t,rfl,Y,h7,_,_⟩:=sm
  have tl:T.length=n:=by rw[<-hn _ Y.kn kt,aD]
  have t16:T.length<=72:=aDp Y.kn kt h16;have fit:=Y.fit<|h7.fit Y.om t16;have sz:es.size=n:=by rw[Y.size,tl]
  refine call_len_set (s:={s1 with heap:=h',toks:=tk}) g ⟨rfl,rfl,rfl⟩ rfl fit (by rw[sz];omega) ?_;rw[sz];have I2:Inv X pins σ H1 {s1 with heap:=h',toks:=tk+1+1}:=I1.kept λb o g=>kp b o g
  exact⟨.int (n:Int),H1,I2,⟨_,rfl⟩,F1,S1,sF,by simp only[ResOk,Rep]⟩
structure TabU(hs:List Key->Int)(t:BI)(es:Array (Int×BA))(T:List iC)(ds:List Nat):Prop where
 om:okM t.mask
 pl:t.place=(T.map (·.1)).toArray
 en:es=(T.map λr=>(hs r.2.1,Value.ref r.2.2)).toArray
 du:t.dummies=ds.toArray
 rs:(T.map (·.1)).Pairwise (·<·)
 dr:ds.Pairwise (·<·)
 dj:∀d∈ds,d∉T.map (·.1)
 lt:∀r∈T,r.1<=t.mask
 rc:∀r∈T,∃n,(pr t.mask (hs r.2.1) n).j=r.1/\∀i,i<n->(pr t.mask (hs r.2.1) i).j∈T.map (·.1)++ds
 kn:(T.map (·.2.1)).Nodup
variable {a b:Expr}
noncomputable def tupK(k:List Key):D:=.tup<|k.map kD
structure TOk(w:AG)(es:List (Int×BA))(t:BI)(ks:List Nat):Prop where
 fit:t.fits es.toArray.size=true
 pl:t.plain=true
 led:t.led= !byT w
 place:t.place=ks.toArray
 asc:ks.Pairwise (·<·)
 len:es.length=ks.length
open PySem.W (kat_lt kat_cons kat_nil kat_yes kat_no kat_one kat_kind KatTups KatLex)
noncomputable def aNx(ds:List D):Nat:=argBest (λi k=>dlt (ds.getD i .non)<|ds.getD k .non)<|ds.length-1
structure MinOk(X:Cx)(ds:List D):Prop where
 ne:0<ds.length
 cmp:∀d∈ds,∀d2∈ds,aOD d d2=true
 pl:∀d∈ds,pl d=true
 dep:∀d∈ds,X.A.units+1+dep d<AN
open PySem.W (kat_lt kat_kind KatTups KatLex)
noncomputable abbrev Pr2:=List Int×List Int
noncomputable def p2D(x:Pr2):D:=.tup [aGs x.1,aGs x.2]
structure SrtP(A:BD)(ps:List Pr2)(rk:Pr2->Nat):Prop where
 len:ps.length<=10000
 lt:∀x∈ps,∀y∈ps,dlt (p2D x) (p2D y)=decide (rk x<rk y)
 nd:(ps.map rk).Nodup
 un:A.units+8<AN
noncomputable def srE{α:Type}(hd:α->List D)(sn:α->D)(x:α):D:=.tup [.tup<|hd x,sn x]
structure SrtE{α:Type}(A:BD)(K:aA)(hd:α->List D)(sn:α->D)(ps:List α)(rk:α->Nat):Prop where
 len:ps.length<=10000
 lt:∀x∈ps,∀y∈ps,aNf [.tup<|hd x,sn x] [.tup<|hd y,sn y]=decide (rk x<rk y)
 nd:(ps.map rk).Nodup
 un:A.units+8<AN
 pl:∀x∈ps,plL [.tup<|hd x,sn x]=true
 cm:∀x∈ps,∀y∈ps,aMW [.tup<|hd x,sn x] [.tup<|hd y,sn y]=true
 dp:∀x∈ps,lY [.tup<|hd x,sn x]<=4
 inj:∀ (F:Hp) (x y:α) (v:V),Rep K F (srE hd sn x) v->Rep K F (srE hd sn y) v->x=y
noncomputable def rkK(r:Int×Int):List Key:=[Sum.inl r.1,Sum.inl r.2]
noncomputable abbrev WtT:=List<|(Int×Int)×List Pr2
structure Wt where
 l:BC
 ls:List BC
 T:WtT
noncomputable def wtK(T:WtT):List (List Key):=T.map λt=>rkK t.1
noncomputable def aOf:WtT->Int×Int->Pr2->WtT
 |[],r,x=>[(r,[x])]
 |t::T,r,x=>if t.1=r then(t.1,t.2++[x])::T else t::aOf T r x
noncomputable def tot(T:WtT):Nat:=(T.map λt=>t.2.length+1).sum
noncomputable def nP(x:List Nat×List Nat):Pr2:=(x.1.map λ(i:Nat)=>(i:Int),x.2.map λ(i:Nat)=>(i:Int))
noncomputable def lgQ(p:Int×Int)(L:List SK)(b:Int)(r:Int×Int)(row nb:List Nat):Nat->WtT->WtT
 |0,T=>T
 |t+1,T=>if r.1+(L.getD t An).2<=b then aOf (lgQ p L b r row nb t T) (r.1+(L.getD t An).2,r.2+1) (nP (row++[t],aKe (aOC p (L.getD t An).1) nb)) else lgQ p L b r row nb t T
noncomputable def unP(y:Pr2):List Nat×List Nat:=(y.1.map Int.toNat,y.2.map Int.toNat)
structure FdS where
 T:WtT
 kn:List (List Nat)
 fd:List (Int×List Nat×List Nat)
noncomputable def fdI(p:Int×Int)(L:List SK)(b:Int)(r:Int×Int)(S:FdS)(x:List Nat×List Nat):FdS:=if x.2∈S.kn then S else⟨lgQ p L b r x.1 x.2 L.length S.T,S.kn++[x.2],S.fd++[(r.1,x.1,x.2)]⟩
noncomputable def fdP(p:Int×Int)(L:List SK)(b:Int)(r:Int×Int)(S:FdS)(xs:List Pr2):FdS:=xs.foldl (λS y=>fdI p L b r S<|unP y) S
structure FdOk(S:FdS):Prop where
 nk:(wtK S.T).Nodup
 kn:S.kn=S.fd.map λe=>e.2.2
 nd:S.kn.Nodup
def rlt(r s:Int×Int):Prop:=r.1<s.1\/(r.1=s.1/\r.2<s.2)
instance (r s:Int×Int):Decidable (rlt r s):=inferInstanceAs (Decidable<|_\/_)
noncomputable def llt:List Int->List Int->Bool
 |[],[]=>false
 |[],_::_=>true
 |_::_,[]=>false
 |x::a,y::b=>if x=y then llt a b else decide (x<y)
noncomputable def plt(x y:Pr2):Bool:=if x.1=y.1 then llt x.2 y.2 else llt x.1 y.1
noncomputable def aOz(x:Pr2):List Pr2->List Pr2
 |[]=>[x]
 |y::l=>if plt x y then x::y::l else y::aOz x l
noncomputable def aOJ:List Pr2->List Pr2
 |[]=>[]
 |x::l=>aOz x<|aOJ l
noncomputable def aGK(T:WtT):Nat:=aNx<|(wtK T).map tupK
noncomputable def fdT(p:Int×Int)(L:List SK)(b:Int)(S:FdS):FdS:=match S.T[aGK S.T]? with
 |none=>S
 |some t=>fdP p L b t.1 {S with T:=S.T.eraseIdx (aGK S.T)} (aOJ t.2)
noncomputable def aKc(p:Int×Int)(L:List SK)(b:Int):Nat->FdS->FdS
 |0,S=>S
 |k+1,S=>if S.T=[] then S else aKc p L b k (fdT p L b S)
noncomputable def inR(row:List Nat):List Int:=row.map λ(i:Nat)=>(i:Int)
noncomputable def rwP(y:Pr2):List Nat:=(unP y).1
noncomputable def itP(p:Int×Int)(L:List SK)(row:List Nat):Pr2:=nP (row,nrQ p L row)
noncomputable def rkR(L:List SK)(row:List Nat):Int×Int:=(S45.prQ (prK L) row,(row.length:Int))
def klt(L:List SK)(a c:List Nat):Prop:=rlt (rkR L a) (rkR L c)\/(rkR L a=rkR L c/\llt (inR a) (inR c)=true)
def kle(L:List SK)(a c:List Nat):Prop:=a=c\/klt L a c
noncomputable def wrR(T:WtT):List (List Nat):=T.flatMap λt=>t.2.map rwP
def Cov(p:Int×Int)(L:List SK)(S:FdS)(rest:List Pr2)(row:List Nat):Prop:=row∈wrR S.T\/row∈rest.map rwP\/∃e∈S.fd,e.2.2=nrQ p L row/\kle L e.2.1 row
structure Wk(p:Int×Int)(L:List SK)(b:Int)(dn:List (List Nat))(r:Int×Int)(rest:List Pr2)(S:FdS):Prop where
 ok:FdOk S
 ne:∀t∈S.T,t.2≠[]
 wt:∀t∈S.T,∀y∈t.2,∃row,y=itP p L row/\kU L row/\t.1=rkR L row/\t.1.1<=b
 rs:∀y∈rest,∃row,y=itP p L row/\kU L row/\r=rkR L row/\r.1<=b
 up:rest.Pairwise λx y=>plt x y=true
 gt:rest≠[]->∀t∈S.T,rlt r t.1
 nd:(dn++rest.map rwP++wrR S.T).Nodup
 fd:∀e∈S.fd,e.2.1∈dn/\kU L e.2.1/\e.1=S45.prQ (prK L) e.2.1/\e.1<=b/\e.2.2=nrQ p L e.2.1
 par:∀row,row∈dn++rest.map rwP++wrR S.T->row=[]\/∃q k,row=q++[k]/\q∈S.fd.map λe=>e.2.1
 du:∀row∈dn,kU L row/\S45.prQ (prK L) row<=b
 srt:(S.fd.map λe=>e.2.1).Pairwise (klt L)
 lt1:∀e∈S.fd,∀y∈rest,klt L e.2.1<|rwP y
 lt2:∀e∈S.fd,∀row∈wrR S.T,klt L e.2.1 row
 cl:∀e∈S.fd,∀k,k<L.length->e.1+prK L k<=b->Cov p L S rest (e.2.1++[k])
 st:0<=b->Cov p L S rest []
noncomputable def fd0(p:Int×Int)(b:Int):FdS:=⟨if 0<=b then[((0,0),[nP ([],st0 p)])] else[],[],[]⟩
noncomputable def bkF(p:Int×Int)(L:List SK)(b:Int):List (Int×List Nat×List Nat):=(aKc p L b 4002<|fd0 p b).fd
variable {p:Int×Int}{L:List SK}{b:Int}{dn:List (List Nat)}{r:Int×Int}{rest:List Pr2}{S:FdS}
structure BkFOk(p:Int×Int)(L:List SK)(b:Int)(B:List (Int×List Nat×List Nat)):Prop where
 len:B.length<=500
 ent:∀e∈B,kU L e.2.1/\e.1=S45.prQ (prK L) e.2.1/\e.1<=b/\e.2.2=nrQ p L e.2.1/\e.2.1.length<=300
 nd:(B.map λe=>e.2.2).Nodup
 srt:(B.map λe=>e.2.1).Pairwise (klt L)
 cl:∀e∈B,∀k,k<L.length->e.1+prK L k<=b->∃e'∈B,e'.2.2=nrQ p L (e.2.1++[k])/\kle L e'.2.1 (e.2.1++[k])
 st:0<=b->∃e∈B,e.2.2=nrQ p L []/\kle L e.2.1 []
structure Fit(p:Int×Int)(L:List SK)(b:Int):Prop where
 l8:L.length<=8
 b3:b<=300
 le:(bkF p L b).length<=500
structure FewR(L:List SK)(b:Int)(U:List (List Nat)):Prop where
 len:U.length<=500
 all:∀row,kU L row->S45.prQ (prK L) row<=b->row∈U
noncomputable def bkQ(p:Int×Int)(L:List SK)(b:Int):List Bk:=(bkF p L b).map λe=>(e.1,e.2.1,tabN p e.2.2)
section
open PySem.W PySem.Calls Att
end
def GtAt(A:BD)(s:BB)(x y:BA)(b:Bool):Prop:=∀ (prog:AD) (w:AG) (E:BA->BB->Prop) (Q:BA->BB->Prop),Q (.bool b) s->AE (AF prog w) A (richCompare .Gt x y) Q E s
inductive aMw(A:BD)(s:BB)(fin:Bool):List (BA×BA)->Bool->Prop
 |nil:aMw A s fin [] fin
 |eq {x y:BA}{r:List (BA×BA)}{b:Bool}:SeqAt.EqAt A.in1 s x y true->aMw A s fin r b->aMw A s fin ((x,y)::r) b
 |lt {x y:BA}{r:List (BA×BA)}{b:Bool}:SeqAt.EqAt A.in1 s x y false->GtAt A.in1 s x y b->aMw A s fin ((x,y)::r) b
section
open PySem.SeqAt
open PySem.AutoSeq1 (wpAny_loadPart')
open PySem.MeetsSeq PySem.MeetsSeq2 PySem.MeetsSeq3
end
mutual
noncomputable def dgt:D->D->Bool
 |.int a,.int b=>decide<|b<a
 |.tup a,.tup b=>aOu a b
 |_,_=>false
noncomputable def aOu:List D->List D->Bool
 |[],[]=>false
 |[],_::_=>false
 |_::_,[]=>true
 |d::ds,e::es=>if deq d e=true then aOu ds es else dgt d e
end
structure KitOk(p:Int×Int)(f:Int)(L:List SK):Prop where
 pos:0<L.length
 le:L.length<=5
 st:∀s∈L,oE p s.1/\f<=s.2/\s.2<=3*f
 nd:(L.map λs=>sqD s.1).Nodup
 f13:f=1\/f=3
structure RwsOk(L:List SK)(b:Int)(n:Nat)(R:List (List Nat)):Prop where
 ne:R≠[]
 len:R.length<=n+1
 ok:∀row∈R,kU L row/\S45.prQ (prK L) row<=b/\row.length<=n
noncomputable def aOH(L:List SK)(row:List Nat):D:=.tup [.int<|S45.prQ (prK L) row,.int (row.length:Int),.tup<|aJO row]
structure BqOk(p:Int×Int)(L:List SK)(b:Int)(B:List Bk):Prop where
 len:B.length<=500
 ent:∀e∈B,kU L e.2.1/\e.1=S45.prQ (prK L) e.2.1/\e.1<=b/\e.2.2=S45.tabQ (aMv p L) (qL p) e.2.1/\e.2.1.length<=300
 nd:(B.map λe=>e.2.2).Nodup
 srt:(B.map λe=>e.2.1).Pairwise (klt L)
 cl:∀e∈B,∀k,k<L.length->e.1+prK L k<=b->∃e'∈B,e'.2.2=aMv p L k e.2.2/\kle L e'.2.1 (e.2.1++[k])
 st:0<=b->∃e∈B,e.2.2=qL p/\kle L e.2.1 []
 all:∀row,kU L row->S45.prQ (prK L) row<=b->∃e∈B,e.2.2=S45.tabQ (aMv p L) (qL p) row/\kle L e.2.1 row
open PySem.W (KasT kas_sort)
def CanC(p:Int×Int)(c:List (List Int)):Prop:=((qL p).filter λf=>decide<|f∈c)=c
variable {τ:List Nat}{c d:List (List Int)}{W:List (Option (List (List Int)))}{T:List (List Int)}
structure WCan(p:Int×Int)(W:List (Option (List<|List Int))):Prop where
 len:W.length=(qL p).length
 ok:∀o∈W,∀c,o=some c->c≠[]/\CanC p c
structure ChN(A c:List (List Int)):Prop where
 ne:c≠[]
 nd:c.Nodup
 sub:∀f∈c,f∈A
structure WN(A:List (List Int))(W:List (Option (List<|List Int))):Prop where
 len:W.length=A.length
 ok:∀o∈W,∀c,o=some c->ChN A c
def FI(K:aA)(mg:Str->Option BA)(n:Str)(st:BG):Prop:=∃f fd,mg n=some (.ref f)/\Fun K n n st f fd
theorem FI.mk{K:aA}{h:BE}{mg:Str->Option BA}{n:Str}{st:BG}{od an:Option BC}{sl:Array (Option BA)}{oc kV dc pm cd ct:BA}{f:BC}(X:K.In h)(G:h.Ns AI mg)(a:cQ K AI n=some (some<|.ref f))(l:K.lookup f=some ⟨oc,od,.func<|cU n n (fK st) (dG st) (bE st) .none kV dc pm an cd ct,sl⟩)(c:fE K cd n=true)(k:bS K (.ref f)=true):FI K mg n st:=⟨f,_,cR X G a,aCg (st:=st) l c k⟩
def JSh(p:Int×Int)(L:List SK)(ks:List Key)(ds:List D):Prop:=ks.Nodup/\ks.length=ds.length/\∀ (n:Nat) (k:Key),ks[n]? =some k->∃b:Nat,b<=900/\k=Sum.inl (b:Int)/\ds[n]? =some (D.lst<|(bkQ p L (b:Int)).map enD)/\Fit p L (b:Int)
noncomputable def shFs(p:Int×Int)(L:List SK):List (Str×D):=[("size",bW p),("stock",.lst<|L.map skD)]
noncomputable abbrev shZ(K:aA)(C:BC)(p:Int×Int)(L:List SK):Lent K:=shL K C (shFs p L)<|JSh p L
structure BkIn(p:Int×Int)(L:List SK)(b:Nat):Prop where
 hp:p∈sizes14
 st:aHJ p L
 nd:(L.map λs=>sqD s.1).Nodup
 fit:Fit p L (b:Int)
 le:b<=900
structure PcIn(p:Int×Int)(L:List SK)(row:List Nat)(pl mn:Nat)(o:Option (List Nat)):Prop where
 rw:∀t∈row,t<L.length
 rl:row.length<=100
 m1:1<=mn
 le:pl+mn<=row.length
 lk:aMr p o
 bk:∃b:Nat,aMF (aML L<|(row.drop pl).take mn)-1=(b:Int)/\BkIn p L b
variable {K:aA}(Z:Lent K)
noncomputable def spXL(n:Nat)(C:Z.α->List D->Prop):Sp:=λvs H _ E=>vs.length=n/\∃ (v:V) (us:List V) (F:Hp) (a:Z.α) (ds:List D),vs=v::us/\Same F H/\(∀b,b∉Z.own a->H b=F b)/\Smp H/\fO K F H (Z.sl a) (some v)/\(Z.own a).Nodup/\RepL K F ds us/\C a ds/\∀x H',Same F H'->Smp H'->E (.ref x) (some x) H'
variable {P:AD}{Z:Lent K}{mg:Str->Option BA}{base:BE}{x qual:Str}{st:BG}{f:BC}{fd:AJ}{N ps:List Str}{k:Nat}{C:Z.α->List D->Prop}{cls:BA}
structure aMx(P:AD)(w:AG)(K:aA)(Z:Lent K)(mg:Str->Option BA)(base:BE)(x:Str)(k n:Nat)(C:Z.α->List D->Prop)(cls:BA):Prop where
 ex:∃ (f:BC) (fd:AJ) (ps:List Str),mg x=some (.ref f)/\bS K (.ref f)=true/\Binds K fd ps []/\FnOk P w K mg base (CX1 P w cls) k f fd ps (spXL Z n C)
structure Xk42(K:aA)(mg:Str->Option BA)(CN:BC):Prop where
 xc:aGq K CN
 ex:oM K CN qB "ValueError.__new__"=true
 le:∃C:BC,mg "LeastError"=some (.ref C)/\aV K (.ref CN) (.ref C)=some true
 nw:mg "TooGreat"=some (.ref CN)/\gC K (.ref CN) (.ref CN)=some true
 ve:mg "ValueError"=none/\aV K (.ref CN) (.type "ValueError")=some true
 nc:∃C:BC,mg "NoChange"=some (.ref C)/\aV K (.ref CN) (.ref C)=some false
 nt:∃C:BC,mg "NoText"=some (.ref C)/\aV K (.ref CN) (.ref C)=some false
 nd:∃C:BC,mg "NoWindow"=some (.ref C)/\aV K (.ref CN) (.ref C)=some false
 ns:∃C:BC,mg "NoWish"=some (.ref C)/\aV K (.ref CN) (.ref C)=some false
def Gr(p:Int×Int)(L:List SK)(b:Int):Prop:=b<=300/\500<(bkF p L b).length
variable {b c tg iter o:Expr}{es:List Expr}{r ra rb:R}{d:D}{ds:List D}{rest:List BG}{E:fW}
structure FunE(dv:Array BA)(K:aA)(x qual:Str)(st:BG)(f:BC)(fd:AJ):Prop where
 ex:∃ (oc:BA) (od:Option BC) (T:BC) (kV doc pm:BA) (an:Option BC) (cdv ct:BA) (osl:Array (Option BA)) (tc:BA) (td:Option BC) (n:Nat) (tsl:Array (Option BA)),
  fd=cU x qual (fK st) (dG st) (bE st) (.ref T) kV doc pm an cdv ct/\K.lookup f=some ⟨oc,od,.func fd,osl⟩/\fE K cdv qual=true/\K.lookup T=some ⟨tc,td,.seq dv n,tsl⟩
 kp:bS K (.ref f)=true
structure aNW(xs:List BA)(P:AD)(w:AG)(K:aA)(mg:Str->Option BA)(base:BE)(x:Str)(k n:Nat)(C:List D->R->Prop):Prop where
 ex:∃ (f:BC) (fd:AJ) (ps:List Str),mg x=some (.ref f)/\bS K (.ref f)=true/\Binds K fd ps []/\Binds K fd ps xs/\FnOk P w K mg base CX0 k f fd ps (spC K n C)
structure BkGr(p:Int×Int)(L:List SK)(b:Nat):Prop where
 hp:p∈sizes14
 st:aHJ p L
 nd:(L.map λs=>sqD s.1).Nodup
 gr:Gr p L (b:Int)
structure McZ(p:Int×Int)(L:List SK)(row:List Nat)(o:Option (List Nat)):Prop where
 hp:p∈sizes14
 st:aHJ p L
 nd:(L.map λs=>sqD s.1).Nodup
 rw:kU L row
 rl:row.length<=30
 lk:aMr p o
structure PcX(p:Int×Int)(L:List SK)(row:List Nat)(pl mn:Nat)(o:Option (List Nat)):Prop where
 rw:∀t∈row,t<L.length
 rl:row.length<=100
 m1:1<=mn
 le:pl+mn<=row.length
 lk:aMr p o
 bk:∃b:Nat,aMF (aML L<|(row.drop pl).take mn)-1=(b:Int)/\BkGr p L b
structure Xk82(K:aA)(mg:Str->Option BA)(CN:BC):Prop where
 ex:oM K CN qB "ValueError.__new__"=true
 nw:mg "TooGreat"=some (.ref CN)/\gC K (.ref CN) (.ref CN)=some true
variable {pins:List (BC×BF)}{σ:St}{H F:Hp}{a:BC}
theorem xW{oe:BF}(I:Inv X pins σ H s)(hn:H a=none)(he:s.heap.get? a=some oe)(h0:X.s₀.heap.get? a=none)(hl:X.env.locals≠a)(hc:∀v,oe.data≠ .cell v)(hp:∀p∈X.pn++pins,p.1≠a):Inv X pins σ (upd H a<|exO a oe) s:=by
 have nn:∀ {b o},H b=some o->b≠a:=λe z=>by rw[z,hn] at e;cases e
 refine⟨I.ok,I.os,I.bare,⟨I.base.keep,I.base.slot,λb o e n hx=> ?_,I.base.there,λb xs e=> ?_,λb u xs e=> ?_,λb ps e=> ?_⟩,I.loc,I.cell, ?_,λx c e=> ?_,λp hp'=> ?_,λb u e=> ?_,I.len⟩
 ·rw[bK λz=>by rw[z,h0] at e;cases e];exact I.base.free b o e n hx
 ·have q:=I.base.tups b xs e;rw[bK<|nn q];exact q
 ·have q:=I.base.frzs b u xs e;rw[bK<|nn q];exact q
 ·obtain⟨m,q⟩:=I.base.tbls b ps e;exact⟨m,by rw[bK<|nn q];exact q⟩
 ·rw[bK hl];exact I.free
 ·have ne:c≠a:=λz=>by obtain⟨v,o,g,d⟩:=I.cell x c e;rw[z,he] at g;cases g;exact hc v d
  rw[bK ne];exact I.freeC x c e
 ·obtain⟨g,n,r⟩:=I.pin p hp';exact⟨g,by rw[bK<|hp p hp'];exact n,r⟩
 ·by_cases hb:b=a
  ·subst hb;rw[bR] at e;cases e;exact aCa he
  ·rw[bK hb] at e;exact(I.hok b u e).stay (λc v _ q=>q) (λc q=>by rw[bK<|nn q];exact q) λc xs q=>by rw[bK<|nn q];exact q
theorem uI{C:BC}{cv:V}{u:BA}{k:Bool}(xc:aGq X.K C)(ru:∀u',RelV cv u'->u'=u)(hk:aV X.K (.ref C) u=some k):
  jK X (.builtin "isinstance") (λxs H Q=>(∃ad oe,xs=[.ref ad,cv]/\H ad=some (exO ad oe)/\oe.cls=.ref C)/\Q (.bl k) H):=by
 intro pins s σ H xs us Q I r h;obtain⟨⟨ad,oe,rfl,g,hc⟩,q⟩:=h;obtain⟨u1,u2,rfl,r1,r2⟩:=aBK r;cases(show u1=Value.ref ad from r1);have e:=ru u2 r2;subst e;exact dB (aFG xc) I.kIn ⟨oe,(I.hok ad _ g).1,hc⟩ hk (by intro q;cases q) λtk=>⟨.bl k,H,I.tok tk,rfl,q⟩
structure FnU(P:AD)(w:AG)(K:aA)(mg:Str->Option BA)(base:BE)(k:Nat)(f:BC)(fd:AJ)(ps:List Str)(sp:Sp):Prop where
 len:∀vs H Q E,sp vs H Q E->vs.length=ps.length
 run:∀ (A:BD) (outer:List Env) (s:BB) (H:Hp) (args:Args) (us:List BA) (vs:List V) (Q:VK) (E:XK),Room k {A with handled:=none}->Env0 P w K mg base A outer s H->BindsTo s fd args (ps.zip us)->Vals vs us->sp vs H Q E->
  codeAny (AF P w) A (.call (.ref f) args) (CR CX0 outer P w H s Q E) s
noncomputable abbrev cxU(P:AD)(w:AG)(K:aA)(mg:Str->Option BA)(base:BE)(N:List Str)(qual:Str)(scope:Scope)(f:BC)(cd:BA)(A:BD)(outer:List Env)(s:BB)(H:Hp)(E:XK):Cx:={jQ CX0 P w K mg base N qual scope f cd A outer s H E with calm:=false}
structure aOb(P:AD)(w:AG)(K:aA)(mg:Str->Option BA)(base:BE)(x:Str)(k n:Nat)(C:List D->R->Prop):Prop where
 ex:∃ (f:BC) (fd:AJ) (ps:List Str),mg x=some (.ref f)/\bS K (.ref f)=true/\Binds K fd ps []/\FnU P w K mg base k f fd ps (spC K n C)
theorem aJh:AT "ValueError"=some (.type "ValueError"):=by boot_by_name
structure Xw8(K:aA)(mg:Str->Option BA)(CN:BC):Prop where
 ex:oM K CN qB "ValueError.__new__"=true
 nw:mg "NoWindow"=some (.ref CN)/\True
structure Xc8(K:aA)(C CL CC CT CI CG CW:BC)(g w:Bool):Prop where
 xc:aGq K C
 le:gC K (.ref C) (.ref CL)=some true
 ve:aV K (.ref C) (.type "ValueError")=some true
 nc:aV K (.ref C) (.ref CC)=some false
 nt:aV K (.ref C) (.ref CT)=some false
 ns:aV K (.ref C) (.ref CI)=some false
 tg:aV K (.ref C) (.ref CG)=some g
 nw:aV K (.ref C) (.ref CW)=some w
structure Xk78(K:aA)(mg:Str->Option BA)(CG CW CL CC CT CI:BC):Prop where
 le:mg "LeastError"=some (.ref CL)
 nc:mg "NoChange"=some (.ref CC)
 nt:mg "NoText"=some (.ref CT)
 ns:mg "NoWish"=some (.ref CI)
 tg:mg "TooGreat"=some (.ref CG)
 nw:mg "NoWindow"=some (.ref CW)
 ve:mg "ValueError"=none
 g:Xc8 K CG CL CC CT CI CG CW true false
 w:Xc8 K CW CL CC CT CI CG CW false true
noncomputable abbrev kY(C t:BC):BF:={cls:=.ref C,data:=.fields #[.ref t,.none,.none,.none,.bool false,.none]}
noncomputable abbrev aOg(us:List BA):BF:={cls:=.type "tuple",data:=.seq us.toArray}
noncomputable def hpE(h:BE)(C:BC)(us:List BA):BE:=(h.push<|aOg us).push<|kY C h.objs.size
section
variable {h:BE}{C N fI:BC}{us:List BA}{nm q:Str}{bs bm bmB:List BA}{hdct:Bool}{sn:List Str}{sub:List BA}{ab:Bool}{col:Option Bool}{dd:Option BC}{k0 k1 k2 k3 k5:Option BA}{B newId initId:String}{mN:Str->Option BA}{oI:BF}{prog:AD}{w:AG}{A:BD}{E:BA->BB->Prop}{g:Array GenState}{d:Drawn}{t:Nat}{os:OsState}
theorem qO{b:BC}{o:BF}(e:h.get? b=some o):(hpE h C us).get? b=some o:=aC _<|aC _ e
theorem aGx:(hpE h C us).get? (h.objs.size+1)=some (kY C h.objs.size):=by
 have:=aY (h.push<|aOg us) (o:=kY C h.objs.size) rfl
 rwa[gG] at this
theorem aBl(F:ExcBaseFacts B newId initId bmB)(T:OwnTail h bmB bm){Q:Fin->BB->Prop}(hC:h.get? C=some (excClassObj nm q C N bs bm hdct sn sub ab col dd k0 k1 k2 k3 k5 newId))(hn:h.Ns N mN)(hi:mN "__init__"=some (.ref fI))(hf:PySem.W.Looks (AF prog w) (hpE h C us) (typeOf<|.ref fI) (.type "function"))
  (k:AE (AF prog w) A (call (.ref fI) (.ref (h.objs.size+1)::us)) (λr s'=>r=.none/\Q (.done<|.ret (.ref<|h.objs.size+1)) s') E ⟨hpE h C us,g,d,t,os⟩) (hl:us.length<=AH):
  AE (AF prog w) A (Builtin.«type.__call__» ⟨.ref C::us,[]⟩) Q E ⟨h,g,d,t,os⟩:=by
 repeat (first|with_reducible refine AS hC ?_|with_reducible refine wpAny_madeBy_exc hC ?_|wp_step)
 refine codeAny_call_builtin_code (Code.quiet_builtin _ F.quiet)<|wpAny_check_new_subT F T hC ?_;refine codeAny_exc_new_subT F T hC ?_ hl
 change AE _ _ _ _ _ (⟨hpE h C us,g,d,t,os⟩:BB)
 have c1:(hpE h C us).get? C=_:=qO hC;have e1:(hpE h C us).get? (h.objs.size+1)=some (kY C h.objs.size):=aGx;have me:(Value.ref C::bm).contains (.ref C)=true:=by simp
 unfold isInstance
 repeat (first|with_reducible refine AS e1 ?_|(with_reducible refine wpAny_isSubtype_exc c1 ?_;rw[me])|wp_step)
 change AE _ _ (typeLookup (.ref C) _) _ _ _
 refine wpAny_typeLookup_tail c1 (hn.keeps λ_ _ e=>qO e) (T.keeps λ_ _ e=>qO e) F.mroIs F.init.lookup ?_;rw[hi];refine AO<|AA ?_;unfold bindSpecial;refine AA<|hf.here (s:=⟨hpE h C us,g,d,t,os⟩) ?_;rw[if_pos<|by decide];refine AC (AA<|AY k (λr s' hr=> ?_) λ_ _ x=>x);obtain⟨rfl,hQ⟩:=hr
 wp_walk
 exact hQ
theorem aEp(F:ExcBaseFacts B newId initId bmB)(T:OwnTail h bmB bm){Q:BA->BB->Prop}(hC:h.get? C=some (excClassObj nm q C N bs bm hdct sn sub ab col dd k0 k1 k2 k3 k5 newId))(hn:h.Ns N mN)(hi:mN "__init__"=some (.ref fI))(hf:PySem.W.Looks (AF prog w) (hpE h C us) (typeOf<|.ref fI) (.type "function"))
  (k:AE (AF prog w) (A.under<|.builtin "type.__call__" ⟨.ref C::us,[]⟩) (call (.ref fI) (.ref (h.objs.size+1)::us)) (λr s'=>r=.none/\Q (.ref<|h.objs.size+1) s') E ⟨hpE h C us,g,d,t,os⟩) (hl:us.length<=AH):
  AE (AF prog w) A (call (.ref C) us) Q E ⟨h,g,d,t,os⟩:=by
 have f1:=tc_lookup;have f2:=tc_bind<|.ref C;have hT:(⟨h,g,d,t,os⟩:BB).TypeIs (.ref C) "type":=⟨_,hC,rfl⟩;refine wpAny_call<|codeAny_of_tree ?_
 change AE _ _ (callAny (.ref C) _) _ _ _
 repeat (any_goals (first|assumption|with_reducible refine AS hC ?_|wp_step))
 refine⟨rfl, ?_⟩;exact codeAny_call_builtin_at (Code.quiet_builtin _<|by decide+kernel) entry_typeCall (wpAny_check_type_call_sub hC<|aBl F T hC hn hi hf k hl)
end
section
variable {h:BE}{C N e t0:BC}{v:BA}{nm q:Str}{bs bm bmB:List BA}{hdct:Bool}{sn:List Str}{sub:List BA}{ab:Bool}{col:Option Bool}{dd:Option BC}{k0 k1 k2 k3 k5:Option BA}{B newId initId:String}{prog:AD}{w:AG}{A:BD}{E:BA->BB->Prop}{g:Array GenState}{d:Drawn}{t:Nat}{os:OsState}
theorem aBh(F:ExcBaseFacts B newId initId bmB)(T:OwnTail h bmB bm){Q:BA->BB->Prop}(hC:h.get? C=some (excClassObj nm q C N bs bm hdct sn sub ab col dd k0 k1 k2 k3 k5 newId))(he:h.get? e=some (kY C t0))
  (k:∀h',(∀b o,b≠e->h.get? b=some o->h'.get? b=some o)->h'.get? e=some (kY C h.objs.size)->Q .none ⟨h',g,d,t,os⟩):
  AE (AF prog w) A (call (.builtin initId) [.ref e,v]) Q E ⟨h,g,d,t,os⟩:=by
 refine wpAny_call (Ab F.init.plain F.initEntry<|wpAny_check_init_subT F T hC he rfl ?_)
 wp_walk
 refine k _ (λb o hb q=> ?_) ?_
 ·rw[cV _ _<|Ne.symm hb];exact aC _ q
 ·rw[cZ _ (aC _ he) rfl];rfl
end
section
open PySem.W Builtin Builtin.ObjectAttr
variable {prog:AD}{w:AG}{A:BD}{E:BA->BB->Prop}{s:BB}{K:Frag}{C CL x t1:BC}{v:BA}{name:Str}{cd:ClassData}
theorem xset{Q:Unit->BB->Prop}(X:K.In s.heap)(hx:s.heap.get? x=some (kY C t1))(hs:findIn K (.ref C) "__setattr__"=some (some<|.builtin "object.__setattr__"))(ha:findIn K (.ref C) name=some none)(hc:clsIn K C=some cd)(hm:cd.mro=.ref C::.ref CL::qB)(hd:cd.hasDict=true)
  (k:∀h' tk' dx,(∀b o,b≠x->s.heap.get? b=some o->h'.get? b=some o)->s.heap.get? dx=none->h'.get? x=some {kY C t1 with dict:=some dx}->h'.Ns1 dx (λy=>if y=name then some v else none)->Q () {s with heap:=h',toks:=tk'}):
  AE (AF prog w) A (setAttr (.ref x) name v) Q E s:=by
 have I:InstAt s.heap x (kY C t1) C none:=⟨hx,rfl,rfl,trivial⟩;refine set_plain X I hs ?_;have SF:=PySem.F.store_ValueError;have hM:Looks (AF prog w) s.heap (mroOf<|.ref C) cd.mro:=(looks_clsIn X hc).andThen .now;have sub:Looks (AF prog w) s.heap (isInstance (.ref x)<|.type "object") true:=I.type.andThen (looks_mroIn X<|by unfold mroIn;rw[hc,sE,if_neg (by rw[hm];simp),hm];rfl);refine Ab SF.slot.plain SF.entry<|@check_slot (AF prog w) _ _ {s with toks:=s.toks+1} "object.__setattr__" "object" "__setattr__" (.ref x) [.str name s.toks,v] [] _ SF.kind SF.split sub (SF.args (.ref x) (.str name s.toks) v) ?_;rw[osa_eq,refuse_eq];refine AA (AA<|I.type.here (s:={s with toks:=s.toks+1}) (AA<|hM.here (s:={s with toks:=s.toks+1}) ?_));rw[hm,refuseLoop_ref,refuseLoop_ref,show refuseLoop (.ref x) "__setattr__" qB=pure () from SF.passes _];refine AC<|AA (I.type.here (s:={s with toks:=s.toks+1})<|AA ((looks_findIn X ha).here (s:={s with toks:=s.toks+1})<|AA ?_));refine AC ?_;show AE _ _ (storeInOwnDict _ _ _ _ _ _) _ _ _;refine AA (AC<|AA (AA<|wpAny_loadPart (s:={s with toks:=s.toks+1}) hx (AA<|(looks_clsIn X hc).here (s:={s with toks:=s.toks+1}) ?_)));rw[hd];show AE _ _ (alloc {cls:=.type "dict",data:=.dict #[]}>>=_) _ _ _;have x1:(s.heap.push {cls:=.type "dict",data:=.dict #[]}).get? x=some (kY C t1):=aC _ hx;have nx:x≠s.heap.objs.size:=bG<|aK hx;refine AA (wpAny_alloc'<|AA (wpAny_update' x1<|AC ?_))
 have gd:((s.heap.push {cls:=.type "dict",data:=.dict #[]}).update x λo=>{cls:=o.cls,dict:=some s.heap.objs.size,data:=o.data,slots:=o.slots}).get? s.heap.objs.size=some {cls:=.type "dict",data:=.dict #[]}:=
  (aEN _ _ _ _ nx.symm).trans (aY _ rfl)
 have gx:((s.heap.push {cls:=.type "dict",data:=.dict #[]}).update x λo=>{cls:=o.cls,dict:=some s.heap.objs.size,data:=o.data,slots:=o.slots}).get? x=some {kY C t1 with dict:=some s.heap.objs.size}:=cZ _ x1 rfl
 have ko:∀b o,b≠x->s.heap.get? b=some o->((s.heap.push {cls:=.type "dict",data:=.dict #[]}).update x λo=>{cls:=o.cls,dict:=some s.heap.objs.size,data:=o.data,slots:=o.slots}).get? b=some o:=λb o ne q=>(aEN _ _ _ _ ne).trans<|aC _ q
 generalize ((s.heap.push {cls:=.type "dict",data:=.dict #[]}).update x λo=>{cls:=o.cls,dict:=some s.heap.objs.size,data:=o.data,slots:=o.slots})=h1 at gd gx ko;have nd:h1.Ns s.heap.objs.size (λ_=>none):=⟨_, #[],_,gd,rfl,λe he=>absurd he<|by simp,λ_=>rfl⟩;show AE _ _ (storeInDict s.heap.objs.size _ _ _) _ _ _;unfold storeInDict newKeyGuard;refine AA<|AC (AA<|wpAny_nsSet1 (Heap.Ns1.of_empty nd) λh' hn' hs'=> ?_);obtain⟨oD,esD,epD,hoD,hdD,hcD⟩:=hn'.count<|Within.cons name v Within.nil;refine AA<|wpAny_lookBehind hoD (by rw[hdD];exact pastItsLine_dict (aQ hcD<|by rw[bM,vL,AM];omega)) ?_
 wp_walk
 exact k h' _ s.heap.objs.size (λb o ne q=>(hs'.2 b (bG<|aK q)).trans<|ko b o ne q) (jB<|aO _) ((hs'.2 x nx).trans gx) hn'
end
variable {a:Expr}
theorem oP{op op':CmpOp}{g g':Int->Int->Bool}{i j l:Int}(ho:OpR X (AK op) (rI0 λi j=>.bl<|g i j))(ho':OpR X (AK op') (rI0 λi j=>.bl<|g' i j))(ha:PEd X sd a (.val<|.int i))(hb:PEd X sd b (.val<|.int j))(hc:PEd X sd c (.val<|.int l))(hm:lastMarks [op,op'] [b,c]=false:=by with_unfolding_all rfl):PTd X sd (.Compare a [op,op'] [b,c] pos) (g i j&&g' j l):=.mk λσ F H S=>
 (aGb ho ho' dH dH dH hm).to ((ha σ F H S).imp fun v H1 ⟨F1,S1,s1,q1⟩=>(hb σ F1 H1 S1).imp fun u H2 ⟨F2,S2,s2,q2⟩=>by
  simp only[ResOk,Rep] at q1 q2;refine⟨i,j,q1,q2,g i j,rfl, ?_⟩;cases hk:g i j with
  |true=>
   rw[if_pos rfl];refine(hc σ F2 H2 S2).imp λw H3 ⟨F3,S3,s3,q3⟩=> ?_
   simp only[ResOk,Rep] at q3;exact⟨j,l,q2,q3,_,rfl,by simp,F3,S3,s1.trans<|s2.trans s3⟩
  |false=>
   rw[if_neg<|by decide]
   exact⟨_,rfl,by simp,F2,S2,s1.trans s2⟩)
theorem vV:∀ {ss:List Str}{us:List BA},Vals (ss.map V.str) us->∃l:List (Str×Tok),us=strValues l/\l.map (·.1)=ss
 |[],_,.nil=>⟨[],rfl,rfl⟩
 |x::ss,_::_,.cons r t=>by obtain⟨k,rfl⟩:=r;obtain⟨l,e1,e2⟩:=vV t;exact⟨(x,k)::l,by rw[e1];rfl,by rw[<-e2];rfl⟩
theorem wX:∀ (l:List (Str×Tok)),Vals ((l.map (·.1)).map V.str) (strValues l)
 |[]=>.nil
 |p::l=>.cons ⟨p.2,rfl⟩<|wX l
noncomputable def yY(acc:Str):List Str->Str
 |[]=>acc
 |z::zs=>yY (acc++z) zs
theorem aAN:∀ (zs:List Str) (acc:Str),acc.length<=(yY acc zs).length
 |[],acc=>aO _
 |z::zs,acc=>aQ (by rw[strLen_append];omega) (aAN zs<|acc++z)
variable {E:BA->BB->Prop}
theorem aFb{y:Str}{t u:Tok}{Q:BA->BB->Prop}(hy:(y.length==0)=false)(hx:x.length<=100000)(hp:(Txt.split x y).length<=100000)
  (hq:∀l tk,l.map Prod.fst=Txt.split x y->Q (.ref s.heap.objs.size) {s with heap:=s.heap.push {cls:=.type "list",data:=.seq (strValues l).toArray},toks:=tk}):
  AE (AF prog w) A (call (.builtin "str.split") [.str x t,.str y u]) Q E s:=by
 have hz:x.length<=AH:=by rw[AM];omega
 by_cases h1:(decide (x.length<y.length)||decide (Builtin.Str.strKind x<Builtin.Str.strKind y))=true
 ·have g:=meets_str_split_cannot_occur x y t u h1;exact Ar iG (Aq _ _ _) lN (kO _ _) g<|hq [(x,t)] s.toks (if_pos h1).symm
 ·have h1f:(decide (x.length<y.length)||decide (Builtin.Str.strKind x<Builtin.Str.strKind y))=false:=by simpa using h1
  by_cases h2:(Builtin.Str.occurrences x y 0 x.length<|x.length+1).isEmpty=true
  ·have g:=meets_str_split_not_found x y t u h1f hy h2;exact Ar iG (Aq _ _ _) lN (kO _ _) g<|hq [(x,t)] s.toks ((if_neg h1).trans<|if_pos h2).symm
  ·have e:Txt.split x y=Builtin.Str.partsBetween x (Builtin.Str.occurrences x y 0 x.length<|x.length+1) y.length:=(if_neg h1).trans<|if_neg h2;have g:=meets_str_split_sep x y t u h1f hy (by simpa using h2) hz (by rw[<-e,AM];omega);refine Ar iG (Aq _ _ _) lN (kO _ _) g ?_;have k:=hq (numbered s.toks<|Txt.split x y) (s.toks+(Txt.split x y).length)<|numbered_texts _ _;rw[e] at k;show wants Q E _ {s with toks:=_,heap:=s.heap.push {cls:=.type "list",data:=.seq (strsFrom s.toks _).toArray}};rw[strsFrom_eq];exact k
theorem aIl{y:Str}{t u:Tok}{Q:BA->BB->Prop}(hy:(y.length==0)=false)(hx:x.length<=100000)
  (hq:∀t1 t2 t3 tk,Q (.ref s.heap.objs.size) {s with heap:=s.heap.push {cls:=.type "tuple",data:=.seq [.str (Txt.partition x y).1 t1,.str (Txt.partition x y).2.1 t2,.str (Txt.partition x y).2.2 t3].toArray},toks:=tk}):
  AE (AF prog w) A (call (.builtin "str.partition") [.str x t,.str y u]) Q E s:=by
 have hz:x.length<=AH:=by rw[AM];omega
 refine Ar vH (Aq _ _ _) PySem.F.entry_str_partition (PySem.F.args_str_partition_2 _ _) (meets_str_partition x y t u hy hz) ?_;have e:Txt.partition x y=match Builtin.Str.occurrences x y 0 x.length 1 with|i::_=>(Builtin.Str.strSub x 0 i,y,Builtin.Str.strSub x (i+y.length) x.length) | []=>(x,Str.empty,Str.empty):=rfl
 rw[e] at hq;cases h:Builtin.Str.occurrences x y 0 x.length 1 with
 |nil=>rw[h] at hq;exact hq _ _ _ _
 |cons i r=>rw[h] at hq;exact hq _ _ _ _
theorem aIm{i:Int}(h:PEd X sd e (.val<|.int i))(hi:i.natAbs.log2<1920):PEd X sd (.FormattedValue e (-1) none pos) (.val (.str<|toString i)):=.mk λσ F H S pins s I=>by refine wpAny_FormattedValue_plain (thn (h σ F H S pins s I) λv s1 ⟨x,H1,I1,r1,F1,S1,sF,q1⟩=> ?_);simp only[ResOk,Rep] at q1;subst q1;obtain⟨t,rfl⟩:=r1;refine wpAny_formatField_int hi ?_;exact⟨.str _,H1,I1.tok _,⟨_,rfl⟩,F1,S1,sF,by simp only[ResOk,Rep]⟩
structure PJ(X:Cx)(sd:List Slot)(es:List Expr)(zs:List Str):Prop where
 run:∀ (σ:St) (F H:Hp),StF X.K X.B₀ F H σ sd->∀ (pins:List (BC×BF)) (s:BB),Inv X pins σ H s->∀ (acc:Str) (Q:Str->BB->Prop),(yY acc zs).length<=AH->
  (∀s1 H1 F1,Inv X pins σ H1 s1->StF X.K X.B₀ F1 H1 σ sd->Same F F1->Q (yY acc zs) s1)->Joins (AF X.prog X.w) X.A X.xe (evalEach es X.env) acc Q s
theorem aLD:PJ X sd [] []:=⟨λσ F H S pins s I acc Q _ k=>k s H F I S<|Same.refl _⟩
theorem aCl{z:Str}{zs:List Str}(h:PEd X sd e (.val (.str z)))(t:PJ X sd es zs)(he:evalEach (e::es) X.env=eval e X.env::evalEach es X.env:=by rfl):PJ X sd (e::es) (z::zs):=⟨fun σ F H S pins s I acc Q hl k=>by
 rw[he];refine thn (h σ F H S pins s I) λv s1 ⟨x,H1,I1,r1,F1,S1,sF,q1⟩=> ?_
 simp only[ResOk,Rep] at q1;subst q1;obtain⟨u,rfl⟩:=r1
 refine⟨z,u,rfl,aQ (aAN zs (acc++z)) hl,t.run σ F1 H1 S1 pins s1 I1 (acc++z) Q hl λs2 H2 F2 I2 S2 s2'=>k s2 H2 F2 I2 S2 (sF.trans s2')⟩⟩
theorem aEl{e1 e2:Expr}{zs:List Str}(h:PJ X sd (e1::e2::es) zs)(hl:(yY Str.empty zs).length<=100000):PEd X sd (.JoinedStr (e1::e2::es) pos) (.val (.str<|yY Str.empty zs)):=.mk λσ F H S pins s I=>by
 have hz:(yY Str.empty zs).length<=AH:=by rw[AM];omega
 refine wpAny_JoinedStr<|h.run σ F H S pins s I Str.empty _ hz λs1 H1 F1 I1 S1 sF=>⟨hz, ?_⟩;exact⟨.str _,H1,I1.tok _,⟨_,rfl⟩,F1,S1,sF,by simp only[ResOk,Rep]⟩
theorem sR{i:Int}{p:Pos}(hg:Gl X "str")(hm:X.mg "str"=none)(h:PEd X sd e (.val<|.int i))(hi:i.natAbs.log2<1920)(hst:AB [e] X.env=(false,eval e X.env)::AB [] X.env:=by rfl):PEd X sd (.Call (.Name "str" p) [e] [] pos) (.val (.str<|toString i)):=
 nJ (he:=hst) yN hg hm PyProof.Rows.boot_str (aB h aN trivial hst) λσ F H vs Q S q k=>by
  cases q with
  |cons q1 q2=>cases q2;simp only[ResOk,Rep] at q1;exact⟨i,by rw[q1],hi,k _ F H S (Same.refl _)<|by simp only[ResOk,Rep]⟩
theorem zN:jK X (.type "str") (λxs H Q=>∃z,xs=[.str z]/\Q (.str z) H):=by intro pins s σ H xs us Q I r h;obtain⟨z,rfl,q⟩:=h;obtain⟨u,rfl,t,rfl⟩:=mG r;exact PySem.P.str_of_str ⟨.str _,H,I,⟨_,rfl⟩,q⟩
theorem aJq{z:Str}{p:Pos}(hg:Gl X "str")(hm:X.mg "str"=none)(h:PEd X sd e (.val<|.str z))(hst:AB [e] X.env=(false,eval e X.env)::AB [] X.env:=by rfl):PEd X sd (.Call (.Name "str" p) [e] [] pos) (.val<|.str z):=
 nJ (he:=hst) zN hg hm PyProof.Rows.boot_str (aB h aN trivial hst) λσ F H vs Q S q k=>by
  cases q with
  |cons q1 q2=>cases q2;simp only[ResOk,Rep] at q1;exact⟨z,by rw[q1],k _ F H S (Same.refl _)<|by simp only[ResOk,Rep]⟩
theorem hU{y:Str}(ha:PEd X sd a (.val<|.str x))(hb:PEd X sd b (.val<|.str y))(hl:x.length+y.length<=100000):PEd X sd (.BinOp a .Add b pos) (.val (.str<|x++y)):=
 rP aBn ha hb trivial λσ F H v u Q S q1 q2 k=>by simp only[ResOk,Rep] at q1 q2;exact⟨x,y,q1,q2,by rw[AM];omega,k _ F H S (Same.refl _)<|by simp only[ResOk,Rep]⟩
theorem aKM{y:Str}(ha:PEd X sd a (.val<|.str x))(hb:PEd X sd b (.val<|.str y))(hk:AQ .In b=false:=by with_unfolding_all rfl):PEd X sd (.Compare a [.In] [b] pos) (.val (.bl<|!(Builtin.Str.occurrences y x 0 y.length 1).isEmpty)):=
 sV aDT ha hb trivial hk λσ F H v u Q S q1 q2 k=>by simp only[ResOk,Rep] at q1 q2;exact⟨x,y,q1,q2,k F H S<|Same.refl _⟩
theorem qM{p:Pos}(hg:Gl X "len")(hm:X.mg "len"=none)(h:PEd X sd e (.val<|.str x))(hl:x.length<=100000)(hst:AB [e] X.env=(false,eval e X.env)::AB [] X.env:=by rfl):PEd X sd (.Call (.Name "len" p) [e] [] pos) (.val<|.int ((x.length:Nat):Int)):=
 jN (he:=hst) yW hg hm PySem.boot_len (aB h aN trivial hst) λσ F H vs Q S q k=>by
  cases q with
  |cons q1 q2=>cases q2;simp only[ResOk,Rep] at q1;exact⟨x,by rw[q1],by rw[AM];omega,k _ F H S (Same.refl _)<|by simp only[ResOk,Rep]⟩
theorem aCc{i:Int}{c:Nat}(ha:PEd X sd a (.val<|.str x))(hb:PEd X sd b (.val<|.int i))(hl:x.length<=100000)(hc:L2.atI x.cps.toList i=some c)(hs:jW b):PEd X sd (.Subscript a b pos) (.val<|.str ⟨#[c]⟩):=.mk λσ F H S=>
 (aBN aKN dH dH hs).to ((ha σ F H S).imp fun v H1 ⟨F1,S1,s1,q1⟩=>(hb σ F1 H1 S1).imp fun u H2 ⟨F2,S2,s2,q2⟩=>by
  simp only[ResOk,Rep] at q1 q2
  exact⟨x,i,c,q1,q2,by rw[AM];omega,hc,F2,S2,s1.trans s2,by simp only[ResOk,Rep]⟩)
theorem aCR:MtR X "str.join" (λx xs H Q=>∃z p ss,x=.str z/\xs=[.ref p]/\SqL X.K H p (ss.map V.str)/\JoinOk z ss=true/\Q (.str<|Txt.join z ss) H):=by intro pins s σ H x xs v us Q I rx rs h;obtain⟨z,p,ss,rfl,rfl,hq,hok,q⟩:=h;obtain⟨t,rfl⟩:=rx;obtain⟨u,rfl,ru⟩:=mG rs;cases ru;obtain⟨its,rv,pl,_⟩:=I.list hq;obtain⟨l,rfl,el⟩:=vV rv;exact SC.join pl.isList el hok λt' k=>⟨.str _,H,I.kept λb u g=>g,⟨_,rfl⟩,q⟩
theorem aIn{z:Str}{ss:List Str}{apos cpos:Pos}(h:PEd X sd o (.val<|.str z))(hz:PEd X sd e (.val (.lst<|ss.map D.str)))(hok:JoinOk z ss=true)
  (hst:AB (e::[]) X.env=(false,eval e X.env)::AB [] X.env:=by rfl)
  (hm:PE X (.Call (.Attribute o "join" apos) [e] [] cpos) (tBM X.K "str" (λx xs H Q=>∃z p ss,x=.str z/\xs=[.ref p]/\SqL X.K H p (ss.map V.str)/\JoinOk z ss=true/\Q (.str<|Txt.join z ss) H) (wE X o)<|sB (wE X e) aHw):=by exact uR fP zV zW aCR dH (eF dH pa_nil)):
  PEd X sd (.Call (.Attribute o "join" apos) [e] [] cpos) (.val (.str<|Txt.join z ss)):=.mk λσ F H S=>
 hm.to ((h σ F H S).imp fun v H1 ⟨F1,S1,s1,q1⟩=>by
  simp only[ResOk,Rep] at q1;subst q1;refine⟨rfl,(hz σ F1 H1 S1).imp λu H2 ⟨F2,S2,s2,q2⟩=> ?_⟩;simp only[ResOk,Rep] at q2;obtain⟨l,xs,rfl,hl,rl⟩:=q2;have ex:=rl.strs;subst ex
  exact⟨z,l,ss,rfl,rfl,.of (S2.sub _ _ hl),hok,F2,S2,s1.trans s2,by simp only[ResOk,Rep]⟩)
theorem aFI:MtR X "str.split" (λx xs H Q=>∃z y,x=.str z/\xs=[.str y]/\(y.length==0)=false/\z.length<=100000/\(Txt.split z y).length<=100000/\∀p,H p=none->Q (.ref p) (upd H p (.lst<|(Txt.split z y).map V.str))):=by
 intro pins s σ H x xs v us Q I rx rs h;obtain⟨z,y,rfl,rfl,hy,hz,hp,q⟩:=h;obtain⟨t,rfl⟩:=rx;obtain⟨u,rfl,t2,rfl⟩:=mG rs;refine aFb hy hz hp λl tk el=> ?_
 have hn:H s.heap.objs.size=none:=I.hok.fresh<|aO _;refine⟨.ref s.heap.objs.size,_,I.laid (o:=.lst<|(Txt.split z y).map V.str) (λb o g=>aC _ g) (aO _) ⟨?_,strValues l,0, ?_,aY _ rfl⟩,rfl,q _ hn⟩
 ·rw[AM,aD];omega
 ·rw[<-el];exact wX l
theorem hJ{z y:Str}{apos cpos:Pos}(h:PEd X sd o (.val<|.str z))(hb:PEd X sd e (.val<|.str y))(hy:(y.length==0)=false)(hz:z.length<=100000)(hp:(Txt.split z y).length<=100000)
  (hst:AB (e::[]) X.env=(false,eval e X.env)::AB [] X.env:=by rfl)
  (hm:PE X (.Call (.Attribute o "split" apos) [e] [] cpos) (tBM X.K "str" (λx xs H Q=>∃z y,x=.str z/\xs=[.str y]/\(y.length==0)=false/\z.length<=100000/\(Txt.split z y).length<=100000/\∀p,H p=none->Q (.ref p) (upd H p (.lst<|(Txt.split z y).map V.str))) (wE X o)<|sB (wE X e) aHw):=by exact uR fP iG PySem.F.type_str_split aFI dH (eF dH pa_nil)):
  PEd X sd (.Call (.Attribute o "split" apos) [e] [] cpos) (.own<|(Txt.split z y).map D.str):=.mk λσ F H S=>
 hm.to ((h σ F H S).imp fun v H1 ⟨F1,S1,s1,q1⟩=>by
  simp only[ResOk,Rep] at q1;subst q1;refine⟨rfl,(hb σ F1 H1 S1).imp λu H2 ⟨F2,S2,s2,q2⟩=> ?_⟩;simp only[ResOk,Rep] at q2;subst q2;refine⟨z,y,rfl,rfl,hy,hz,hp,λp hn=> ?_⟩;obtain⟨S3,fp,no⟩:=S2.layO (xs:=(Txt.split z y).map V.str) hn;refine⟨F2,S3,s1.trans s2,p,_,rfl,fp,bR, ?_,no⟩
  have gg:∀ks:List Str,RepL X.K F2 (ks.map D.str) (ks.map V.str):=λks=>by
   induction ks with
   |nil=>exact .nil
   |cons k ks ih=>exact .cons (by simp only[Rep]) ih
  exact gg _)
theorem aID:MtR X "str.partition" (λx xs H Q=>∃z y,x=.str z/\xs=[.str y]/\(y.length==0)=false/\z.length<=100000/\∀p,H p=none->Q (.ref p) (upd H p<|.tup [.str (Txt.partition z y).1,.str (Txt.partition z y).2.1,.str (Txt.partition z y).2.2])):=by
 intro pins s σ H x xs v us Q I rx rs h;obtain⟨z,y,rfl,rfl,hy,hz,q⟩:=h;obtain⟨t,rfl⟩:=rx;obtain⟨u,rfl,t2,rfl⟩:=mG rs;refine aIl hy hz λt1 t2 t3 tk=> ?_
 have hn:H s.heap.objs.size=none:=I.hok.fresh<|aO _;refine⟨.ref s.heap.objs.size,_,I.laid (o:=.tup [.str (Txt.partition z y).1,.str (Txt.partition z y).2.1,.str (Txt.partition z y).2.2]) (λb o g=>aC _ g) (aO _) ⟨?_,_,.cons ⟨t1,rfl⟩ (.cons ⟨t2,rfl⟩<|.cons ⟨t3,rfl⟩ .nil),IsTupD.new _ _⟩,rfl,q _ hn⟩;rw[AM];exact cG rfl
theorem aIc{z y:Str}{apos cpos:Pos}(h:PEd X sd o (.val<|.str z))(hb:PEd X sd e (.val<|.str y))(hy:(y.length==0)=false)(hz:z.length<=100000)
  (hst:AB (e::[]) X.env=(false,eval e X.env)::AB [] X.env:=by rfl)
  (hm:PE X (.Call (.Attribute o "partition" apos) [e] [] cpos) (tBM X.K "str" (λx xs H Q=>∃z y,x=.str z/\xs=[.str y]/\(y.length==0)=false/\z.length<=100000/\∀p,H p=none->Q (.ref p) (upd H p<|.tup [.str (Txt.partition z y).1,.str (Txt.partition z y).2.1,.str (Txt.partition z y).2.2])) (wE X o)<|sB (wE X e) aHw):=by exact uR fP vH PySem.F.type_str_partition aID dH (eF dH pa_nil)):
  PEd X sd (.Call (.Attribute o "partition" apos) [e] [] cpos) (.val<|.tup [.str (Txt.partition z y).1,.str (Txt.partition z y).2.1,.str (Txt.partition z y).2.2]):=.mk λσ F H S=>
 hm.to ((h σ F H S).imp fun v H1 ⟨F1,S1,s1,q1⟩=>by
  simp only[ResOk,Rep] at q1;subst q1;refine⟨rfl,(hb σ F1 H1 S1).imp λu H2 ⟨F2,S2,s2,q2⟩=> ?_⟩;simp only[ResOk,Rep] at q2;subst q2;refine⟨z,y,rfl,rfl,hy,hz,λp hn=> ?_⟩;obtain⟨S3,s3⟩:=S2.lay (o:=.tup [.str (Txt.partition z y).1,.str (Txt.partition z y).2.1,.str (Txt.partition z y).2.2]) hn trivial;refine⟨_,S3,(s1.trans s2).trans s3, ?_⟩;simp only[ResOk,Rep]
  exact⟨p,_,rfl,bR,.cons (by simp only[Rep]) (.cons (by simp only[Rep]) (.cons (by simp only[Rep]) .nil))⟩)
def AtG(fn:Str)(i:Int)(F:Hp)(dx:BC):Prop:=∃od u,F dx=some (exO dx od)/\RelV (.int i) u/\∀h:BE,h.get? dx=some od->h.Ns1 dx (λy=>if y=fn then some u else none)
noncomputable def xT(C t:BC)(y:Option (BC×Int)):BF:={kY C t with dict:=y.map (·.1)}
noncomputable def exZ(K:aA)(fn:Str)(C:BC):Lent K where
 α:=BC×BC×Option (BC×Int)
 ad x:=x.1
 own x:=[x.1]
 G x v F H:=v=.ref x.1/\H x.1=some (exO x.1<|xT C x.2.1 x.2.2)/\∀y,x.2.2=some y->AtG fn y.2 F y.1
 hv h:=h.1
theorem aLI{fn:Str}{C:BC}(a:(exZ K fn C).α)(v:V)(F H:Hp)(b:BC)(o:HO)(g:(exZ K fn C).G a v F H)(hb:b∈(exZ K fn C).own a)(e:H b=some o):¬ zK o:=by have hb:b=a.1:=bX.mp hb;subst hb;rw[g.2.1] at e;cases e;exact λz=>z
noncomputable def aMu(K:aA)(C CL fI:BC):Bool:=match K.lookup C with
 | some ⟨.type "type",_, .cls cd,sl⟩=>(match sl.toList with
  |[_,_,_,_,some<|.builtin n,_]=>cd.mro==.ref C::.ref CL::qB&&n=="ValueError.__new__"&&!cd.hasDel&&PySem.W.tailIn K qB (.ref CL::qB)&&PySem.W.nsOkIn K cd.ns&&cQ K cd.ns "__init__"==some (some<|.ref fI)&&cd.hasDict
  |_=>false)
 |_=>false
theorem aIH{h:BE}{N:BC}{m:Str->Option BA}{n:Str}{v:BA}(X:K.In h)(G:h.Ns N m)(e:cQ K N n=some (some v)):m n=some v:=by
 obtain⟨o,es,ep,ho,hd,_,hf⟩:=G;unfold cQ at e
 split at e
 ·rename_i q;have w:=X _ _ q;rw[ho] at w;cases w;cases hd
  split at e
  ·rename_i he;cases e;rw[<-hf];unfold nsFind findBy;rw[<-aEL,he];rfl
  ·split at e<;>cases e
 ·cases e
theorem sZ{h:BE}{C CL fI:BC}(X:K.In h)(q:aMu K C CL fI=true):
  ∃N nm q bs sn sub ab col dd k0 k1 k2 k3 k5 mN,h.get? C=some (excClassObj nm q C N bs (.ref CL::qB) true sn sub ab col dd k0 k1 k2 k3 k5 "ValueError.__new__")/\h.Ns N mN/\mN "__init__"=some (.ref fI)/\OwnTail h qB (.ref CL::qB)/\∃cd,oN K C=some cd/\cd.mro=.ref C::.ref CL::qB/\cd.hasDict=true:=by
 unfold aMu at q
 split at q
 ·rename_i dd cd sl ho
  split at q
  ·rename_i k0 k1 k2 k3 n k5 hs;simp only[aR,beq_iff_eq,gB] at q;obtain⟨⟨⟨⟨⟨⟨hm,rfl⟩,hdel⟩,ht⟩,hok⟩,hni⟩,hdi⟩:=q;have hcl:oN K C=some cd:=by unfold oN;rw[ho]
   refine⟨cd.ns,cd.name,cd.qualname,cd.bases,cd.slotNames,cd.subclasses,cd.abstract,cd.collection,dd,k0,k1,k2,k3,k5,_, ?_,.of_isNs<|aBF X hok,aIH X (.of_isNs<|aBF X hok) hni,PySem.W.tail_of_in X ht,cd,hcl,hm,hdi⟩;rw[X _ _ ho];obtain⟨nm,bs,mro,ns,qn,hd,sn,sub,ab,col,del⟩:=cd;dsimp only at hm hdel hdi;subst hm hdel hdi
   have hsl:sl= #[k0,k1,k2,k3,some<|.builtin "ValueError.__new__",k5]:=by obtain⟨l⟩:=sl;simp only at hs;rw[hs]
   subst hsl;rfl
  ·cases q
 ·cases q
structure XIn(K:aA)(mg:Str->Option BA)(fn:Str)(C CL fI:BC):Prop where
 ex:aMu K C CL fI=true
 sa:cS K (.ref C) "__setattr__"=some (some<|.builtin "object.__setattr__")
 fa:cS K (.ref C) fn=some none
 mgL:mg "LeastError"=some (.ref CL)
 ga:kI K (.ref CL) "__getattribute__"=some (some<|.builtin "type.__getattribute__")
 rd:aGl K CL (.type "type")=true
 fc:aGm K (.ref CL) (.type "type") "__init__"=some (.val<|.builtin "ValueError.__init__")
variable {e2:Expr}{p1 p2 ap cp:Pos}{z:Str}{fn:Str}{C CL fI a t:BC}{E:fW}
theorem aEW{pl:Sem Bool}(xi:XIn X.K X.mg fn C CL fI)(hs:sd[0]? =some ((exZ X.K fn C).sl (a,t,none)))(hx:PE X (.Name "self" p2) (mU 0))(hg:Gl X "LeastError")(he:PEd X sd e2 (.val<|.str z))(hE:∀t',E.nx (sd.set 0<|(exZ X.K fn C).sl (a,t',none)))
  (hst:AB (.Name "self" p2::[e2]) X.env=(false,eval (.Name "self" p2) X.env)::AB [e2] X.env:=by rfl) (hst2:AB [e2] X.env=(false,eval e2 X.env)::AB [] X.env:=by rfl) (hpl:(AX cp<|AB [e2] X.env).any (·.1)=false:=by rfl)
  (hsw:Ad (.Call (.Attribute (.Name "LeastError" p1) "__init__" ap) [.Name "self" p2,e2] [] cp) none pos.line X.env=pure false:=by rfl)
  (ht:eval (.Call (.Attribute (.Name "LeastError" p1) "__init__" ap) [.Name "self" p2,e2] [] cp) X.env=(do
   let ov <-eval (.Name "LeastError" p1) X.env
   standAt ap.atName
   let (f,first) <-holding [ov] (getMethod ov "__init__" pl)
   callWith cp f first (AX cp (AB [.Name "self" p2,e2] X.env)) (backToKw cp (keywordEach [] X.env))):=by rfl):
  PSd1 X sd (.Expr (.Call (.Attribute (.Name "LeastError" p1) "__init__" ap) [.Name "self" p2,e2] [] cp) pos) E:=.mk λσ F H S=>
 (qY dH hsw).to λpins s I=>by
  obtain⟨o0,h1,v,h2,ow,gg⟩:=S.slots.get hs;have g0:=(gg F H (Same.refl _) λ_ _ _ e=>e).1;subst h2 g0;refine PySem.W.methodCall_KW (pl:=pl) (pM I hg xi.mgL ?_) ht;refine PySem.W.method_cls I.kIn xi.ga<|PySem.W.cls_value I.kIn xi.rd xi.fc rfl ?_;have I':=I.tok<|s.toks+1;refine PyProof.Rows.callWith_builtin1 (thn ((eF hx (eF dH pa_nil hst2) hst) cp pins _ σ H (λvs H'=>∃u F1,vs=[.ref a,u]/\StF X.K X.B₀ F1 H' σ sd/\Same F F1) I' ⟨_,h1,(he σ F H S).imp λu H1 ⟨F1,S1,s1,q1⟩=>⟨u,F1,rfl,S1,s1⟩⟩) λus s1 ⟨vs,H1,I1,r1,u,F1,ev,S1,sF⟩=> ?_) hst hpl;subst ev;obtain⟨u1,u2,rfl,ru1,ru2⟩:=aBK r1;cases(show u1=Value.ref a from ru1);obtain⟨o1,g1,v',g2,ow1,gg1⟩:=S1.slots.get hs;have G1:=gg1 F1 H1 (Same.refl _) λ_ _ _ e=>e
  have ho:s1.heap.get? a=some (kY C t):=(I1.hok a _ G1.2.1).1;obtain⟨N,nm,q,bs,sn,sub,ab,col,dd,k0,k1,k2,k3,k5,mN,hC,_,_,T,_⟩:=sZ I1.kIn xi.ex;obtain⟨hp,gs,dr,tk,os⟩:=s1;refine aBh vI T hC ho λh' kk hn=> ?_
  have I2:=I1.write (x:=a) (e:=a) (o:=exO a<|kY C hp.objs.size) (t':=tk) (by rw[G1.2.1];exact True.intro) (.inl rfl) kk ⟨_,hn⟩<|aCa hn;refine⟨.non,_,I2,rfl,_,F1,S1.reX (H':=upd H1 a (exO a<|kY C hp.objs.size)) (z':=(exZ X.K fn C).sl (a,hp.objs.size,none)) hs g1 (λb ob hb e=> ?_) (aAK S1.smp a) ⟨v',g2,λb hb=> ?_,λF' H' s k=>⟨G1.1,k a (by simp[exZ]) _ bR,λy hy=>by cases hy⟩⟩ (by simp[gH,Lent.sl,exZ]) λb hb=>.inl hb,sF,hE _⟩
  ·rw[bK λz=>hb<|by rw[z];simp[gH,Lent.sl,exZ]];exact e
  ·have hb:b=a:=bX.mp hb;subst hb;exact⟨(ow1 _<|by simp[exZ]).1,_,bR,_,rfl,λv z=>by cases z⟩
theorem aFM{b:BC}{x y:HO}(ne:a≠b):upd (upd H a x) b y=upd (upd H b y) a x:=by
 funext c;unfold upd
 by_cases h1:c=a
 ·subst h1;simp[ne]
 ·simp[h1]
theorem aFm{i:Int}(xi:XIn X.K X.mg fn C CL fI)(hs:sd[0]? =some ((exZ X.K fn C).sl (a,t,none)))(hx:PE X (.Name "self" p2) (mU 0))(he:PEd X sd e2 (.val<|.int i))(hE:∀dx,E.nx (sd.set 0<|(exZ X.K fn C).sl (a,t,some (dx,i))))(hex:X.ex=[]:=by rfl)
  (hsw:Ad e2 (some<|.Attribute (.Name "self" p2) fn ap) pos.line X.env=pure false:=by rfl):
  PSd1 X sd (.Assign [.Attribute (.Name "self" p2) fn ap] e2 pos) E:=.mk λσ F H S pins s I=>by
 refine plainObj_wpAny_Assign_Attribute (thn (he σ F H S pins s I) λu s1 ⟨v,H1,I1,rv,F1,S1,sF,q1⟩=> ?_) hsw;simp only[ResOk,Rep] at q1;subst q1;obtain⟨o1,g1,v',g2,ow1,gg1⟩:=S1.slots.get hs;have G1:=gg1 F1 H1 (Same.refl _) λ_ _ _ e=>e
 have ev:=G1.1;subst g2 ev;refine thn (hx pins s1 σ H1 (λv H2=>v=.ref a/\H2=H1) I1 ⟨.ref a,g1,rfl,rfl⟩) λov s2 ⟨y,H2,I2,ry,e1,e2⟩=> ?_
 subst e1 e2;obtain rfl:ov=Value.ref a:=ry;have ho:s2.heap.get? a=some (kY C t):=(I2.hok a _ G1.2.1).1;obtain⟨N,nm,q,bs,sn,sub,ab,col,dd,k0,k1,k2,k3,k5,mN,_,_,_,_,cd,hc,hm,hd⟩:=sZ I2.kIn xi.ex;refine xset I2.kIn ho xi.sa xi.fa hc hm hd λh' tk' dx kk nd hn ns=> ?_
 obtain⟨od,es,ep,hod,rest⟩:=ns
 have nda:dx≠a:=λz=>by rw[z,ho] at nd;cases nd
 have n0:H2 dx=none:=by
  cases g:H2 dx with
  |none=>rfl
  |some u=>obtain⟨ob,w⟩:=uV<|I2.hok dx u g;rw[nd] at w;cases w
 have I3:=I2.write (x:=a) (e:=a) (o:=exO a (xT C t<|some (dx,i))) (t':=tk') (by rw[G1.2.1];exact True.intro) (.inl rfl) kk ⟨_,hn⟩<|aCa hn
 have nl:X.env.locals≠dx:=λz=>by obtain⟨m,⟨o,_,_,w,_⟩,_⟩:=I2.loc;rw[z,nd] at w;cases w
 have I4:=xW (a:=dx) I3 (by rw [bK nda]; exact n0) hod (by
  cases g:X.s₀.heap.get? dx with
  |none=>rfl
  |some o=>
   obtain⟨o1,w⟩:=I2.base.there dx o g (λhb=>by rw[hex] at hb;cases hb);rw[nd] at w
   cases w) nl (λv z=>by rw[rest.1] at z;cases z) λp hp z=>by
   have:=(I2.pin p hp).1;rw[z,nd] at this;cases this
 rw[aFM nda.symm] at I4;obtain⟨S2,s2'⟩:=S1.lay (o:=exO dx od) n0 trivial;refine⟨σ,_,I4,_,_,S2.reX (H':=upd (upd H2 dx<|exO dx od) a<|exO a (xT C t<|some (dx,i))) (z':=(exZ X.K fn C).sl (a,t,some (dx,i))) hs g1 (λb ob hb e=> ?_) (aAK S2.smp a) ⟨_,rfl,λb hb=> ?_,λF' H' s k=>⟨rfl,k a (by simp[exZ]) _ bR,λy hy=> ?_⟩⟩ (by simp[gH,Lent.sl,exZ]) λb hb=>.inl hb,sF.trans s2',hE _⟩
 ·rw[bK λz=>hb<|by rw[z];simp[gH,Lent.sl,exZ]];exact e
 ·have hb:b=a:=bX.mp hb;subst hb;exact⟨by rw[bK nda.symm];exact(ow1 _<|by simp[exZ]).1,_,bR,_,rfl,λv z=>by cases z⟩
 ·have hy:some (dx,i)=some y:=hy;cases hy;exact⟨od,u,s _ _ bR,rv,λh hh=>⟨od,es,ep,hh,rest⟩⟩
def aNd{K:aA}(fn:Str)(C:BC):(exZ K fn C).α->List D->((exZ K fn C).α->Prop)->Prop:=λx ds post=>∃ (a t:BC) (i:Int),x=(a,t,none)/\(0<=i/\i<64)/\ds=[.int i]/\post=λx'=>∃t' dx,x'=(a,t',some (dx,i))
theorem aLZ{Z:Lent K}{C:Z.α->List D->(Z.α->Prop)->Prop}(F:Fun K x qual st f fd)(S:jC N ps (bE st))
  (body:∀ (cdv:BA) (A:BD) (outer:List Env) (s:BB) (H:Hp) (E:XK) (B:Hp) (hB:∀b o,H b=some o→zK o→B b=some o),Room k (A.deeper (Ak qual (bE st) s.heap.objs.size f cdv))→∀a ds post,ds.length+1=ps.length→C a ds post→
   PSd (reB (jQ CX0 P w K mg base N qual (bE st) f cdv A outer s H E).nox B hB) (zO Z N.length a ds) (dG st) {nx:=λsd'=>∃a',post a'/\sd'[0]? =some (Z.sl a'),rt:=λ_=>False})
  (hw:∀ (a:Z.α) (v:V) (F H:Hp) (b:BC) (o:HO),Z.G a v F H->b∈Z.own a->H b=some o->¬ zK o):FnOk P w K mg base CX0 (k+1) f fd ps (spL Z ps.length C):=by
 refine F.ok S (λvs H Q E h=>h.1) λcdv A outer s H vs Q E hr h=> ?_
 obtain⟨hl,v,us,F0,a,ds,post,rfl,sF,hH,sm,so,nd,rl,c,hp,q⟩:=h;have hds:ds.length+1=ps.length:=by rw[<-rl.len];exact hl
 have hB:∀b o,H b=some o->zK o->F0 b=some o:=λb o e no=>by
  by_cases hbl:b∈Z.own a
  ·obtain⟨_,_,_,gg⟩:=so;exact absurd no<|hw a _ F0 H b o (gg F0 H (Same.refl _) λ_ _ _ e=>e) hbl e
  ·rw[<-hH b hbl];exact e
 refine⟨_,sC,aJg (B:=F0) (hb:=hB) ?_⟩;have hlen:N.length-(us.length+1)=N.length-(ds.length+1):=by rw[rl.len]
 have S0:StF K F0 F0 H (L2.start N (v::us)) (zO Z N.length a ds):=by
  refine⟨Same.refl _,sF,sm, ?_, ?_⟩
  ·unfold L2.start zO;show SlotsOk K F0 _ (_::_) (some v::(us.map some++bL (N.length-(us.length+1)) none));rw[hlen];exact⟨_,_,rfl,so,lQ (m:=0) rl⟩
  ·unfold zO;rw[oW,lU,dC];exact nd
 refine(body cdv A outer s _ E F0 hB hr a ds post hds c (L2.start N (v::us)) F0 _ S0).imp ?_ ?_ (λ_ _ ⟨_,_,_,_,z⟩=>z) λ_ _ ⟨_,_,_,_,z⟩=>z
 ·rintro σ' H' ⟨sd',F',S',s',a',pa,hs⟩;obtain⟨o,h1,so'⟩:=S'.slots.get hs;obtain⟨v',rfl,ow',gg⟩:=so';have e1:=Z.hv<|gg F' H' (Same.refl _) λ_ _ _ e=>e;obtain⟨v0,ev,_,g0⟩:=so;cases ev;have e0:=Z.hv<|g0 F0 H (Same.refl _) λ_ _ _ e=>e;have evv:v'=v:=by rw[e1,e0,hp a' pa]
  subst evv;exact q H' ⟨F',a',pa,S'.base,S'.sub,S'.smp,⟨v',rfl,ow',gg⟩,tQ S'.nd hs⟩
 ·rintro v' H' ⟨r',ro,e⟩;exact e.elim
structure PXn(X:Cx)(sd:List Slot)(e:Expr)(fn:Str)(C:BC)(i:Int):Prop where
 run:∀ (σ:St) (F H:Hp),StF X.K X.B₀ F H σ sd->wE X e σ H λv H'=>∃F' a t dx,v=.ref a/\X.s₀.heap.get? a=none/\StF X.K X.B₀ F' H' σ sd/\Same F F'/\F' a=none/\a∉cH sd/\H' a=some (exO a (xT C t<|some (dx,i)))/\AtG fn i F' dx
variable {p:Pos}{i:Int}
theorem qG(xi:XIn X.K X.mg fn C CL fI)(hkp:bS X.K (.ref C)=true)(hty:vG X.K (.ref fI)=some (.type "function"))(G:FnOk X.prog X.w X.K X.mg X.base CX0 k fI fd ps (spL (exZ X.K fn C) 2<|aNd fn C))(hb:Binds X.K fd ps [])(hr:Room (k+1) X.A)(hg:Gl X x)(hm:X.mg x=some (.ref C))(ha:PEd X sd e (.val<|.int i))(hi:0<=i/\i<64)(hex:X.ex=[]:=by rfl)
  (hdb:(x==("__debug__":Str))=false:=by decide) (he:AB (e::[]) X.env=(false,eval e X.env)::AB [] X.env:=by rfl) (hpl:(AX pos<|AB [] X.env).any (·.1)=false:=by rfl):
  PXn X sd (.Call (.Name x p) [e] [] pos) fn C i:=⟨fun σ F H S pins s I=>by
 refine AZ<|pM I hg hm ?_ hdb;refine oZ (h₀:=X.base) I.ok.mod.kin hkp (thn ((aB ha aN trivial he σ F H S) pos pins s I) λus s1 ⟨vs,H1,I1,r,F1,S1,s1',q1⟩=>⟨I1.kIn, ?_⟩) he hpl;have rl:RepL X.K F1 [.int i] vs:=q1.vals (ds:=[.int i]);obtain⟨N,nm,q,bs,sn,sub,ab,col,dd,k0,k1,k2,k3,k5,mN,hC,hN,hini,T,_⟩:=sZ I1.kIn xi.ex
 have hl:us.length<=AH:=by rw[<-r.length,rl.len];show 1<=AH;rw[AM];omega
 obtain⟨hp,gs,dr,tk,os⟩:=s1;have I2:Inv X pins σ H1 ⟨hpE hp C us,gs,dr,tk,os⟩:=I1.kept (t':=tk) λ_ _ e=>qO e
 refine aEp vI T hC hN hini (PySem.W.looks_typeIn I2.kIn hty) ?_ hl;have nf:∀b,hp.objs.size<=b->hp.get? b=none:=λb h=>jB h
 have s0:X.s₀.heap.get? (hp.objs.size+1)=none:=by
  cases g:X.s₀.heap.get? (hp.objs.size+1) with
  |none=>rfl
  |some o=>obtain⟨o1,w⟩:=I1.base.there _ o g (λhb=>by rw[hex] at hb;cases hb);rw[nf _<|lO _] at w;cases w
 have I3:=xW (a:=hp.objs.size+1) (oe:=kY C hp.objs.size) I2 (I1.hok.fresh (lO _)) aGx s0 (fun z=>by
   have:=I1.lt;rw[z] at this
   exact absurd this (sA.mpr (lO _))) (λv z=>by cases z) λp hp' z=>by
   have:=(I1.pin p hp').1;rw[z,nf _<|lO _] at this;cases this
 have fr1:H1 (hp.objs.size+1)=none:=I1.hok.fresh<|lO _;obtain⟨S2,fF,no⟩:=S1.layW (p:=hp.objs.size+1) (o:=exO (hp.objs.size+1)<|kY C hp.objs.size) fr1 trivial
 have so:fO X.K F1 (upd H1 (hp.objs.size+1) (exO (hp.objs.size+1)<|kY C hp.objs.size)) ((exZ X.K fn C).sl (hp.objs.size+1,hp.objs.size,none)) (some (.ref<|hp.objs.size+1)):=
  ⟨_,rfl,fun b hb=>by
   have hb:b=hp.objs.size+1:=bX.mp hb;subst hb
   exact⟨fF,_,bR,_,rfl,λv z=>by cases z⟩,λF' H' s k=>⟨rfl,k _ (by simp[exZ]) _ bR,λy hy=>by cases hy⟩⟩
 have sp:spM (exZ X.K fn C) 2 (aNd fn C) (.ref (hp.objs.size+1)::vs) (upd H1 (hp.objs.size+1) (exO (hp.objs.size+1)<|kY C hp.objs.size)) (λv H'=>v=.non/\∃F' a t dx,V.ref (hp.objs.size+1)=.ref a/\X.s₀.heap.get? a=none/\StF X.K X.B₀ F' H' σ sd/\Same F F'/\F' a=none/\a∉cH sd/\H' a=some (exO a (xT C t<|some (dx,i)))/\AtG fn i F' dx) E0:=by
  refine⟨by rw[bM,rl.len];rfl,S2.smp,_,vs,F1,(hp.objs.size+1,hp.objs.size,none),[.int i],_,rfl,S2.sub,so,by simp[exZ],rl,⟨_,_,i,rfl,hi,rfl,rfl⟩, ?_, ?_⟩
  ·rintro a' ⟨t',dx,rfl⟩;rfl
  ·rintro F' H' a' ⟨t',dx,rfl⟩ s2 s3 sm so' nd kp kf;obtain⟨v',ev,ow',gg⟩:=so';have G:=gg F' H' (Same.refl _) λ_ _ _ e=>e
   refine⟨rfl,F',_,t',dx,rfl,s0,⟨λb o e=>s2 _ _<|S1.base _ _ e,s3,sm,S1.slots.mono s2 λb hb=> ?_,S1.nd⟩,s1'.trans s2,(ow' _<|by simp[exZ]).1,no,G.2.1,G.2.2 (dx,i) rfl⟩;obtain⟨n1,ob,e,_⟩:=S2.slots.owns hb
   have nb:b∉(exZ X.K fn C).own (hp.objs.size+1,hp.objs.size,none):=fun z=>no (by
    have:b=hp.objs.size+1:=bX.mp z;rw[<-this]
    exact hb)
   have nb':b≠hp.objs.size+1:=λz=>nb (by rw[z];simp[exZ])
   exact⟨(kf b ob nb e n1).1,λxs e'=>kp b xs nb<|by rw[bK nb'];exact e'⟩
 have hl2:(Value.ref (hp.objs.size+1)::us++[]).length=ps.length:=by rw[dC,bM,<-r.length,<-bM (a:=V.ref<|hp.objs.size+1)];exact(FnOk.framedL G).len _ _ _ _ sp
 refine wpAny_call<|Ag ((FnOk.framedL G).run _ X.stack _ _ ⟨Value.ref (hp.objs.size+1)::us,[]⟩ (Value.ref (hp.objs.size+1)::us++[]) (.ref (hp.objs.size+1)::vs) _ E0 (hr.make C us []) (I3.env0.make C us []) (hb _ (Value.ref (hp.objs.size+1)::us) I3.kIn hl2) (by rw[dC];exact .cons rfl r) sp) λrr s' hq=> ?_;cases rr with
 |error e=>exact hq.elim
 |ok fl=>
  cases fl with
  |ret u=>obtain⟨v,H',I4,rv,ev,q4⟩:=I3.after hq;subst ev;exact⟨rv,.ref<|hp.objs.size+1,H',I4,rfl,q4⟩
  |next=>exact False.elim hq
  |brk=>exact False.elim hq
  |cont=>exact False.elim hq⟩
variable {M:Model}{E:BA->BB->Prop}{env:Env}{outer:List Env}{L e:BC}{oe:BF}{vs:Array BA}{head:BA}{had:Bool}
structure Ent1(fs:List BC)(L e:BC)(oe:BF)(vs:Array BA)(h h':BE)(T:BC):Prop where
 keep:∀b o,b≠e->b∉fs->h.get? b=some o->h'.get? b=some o
 slot:∀b o,b≠e->h.get? b=some o->∃sl,h'.get? b=some {o with slots:=sl}
 at_:h'.get? e=some {oe with data:=.fields (vs.setIfInBounds 1<|.ref T)}
 ne:T≠e
 new:h.get? T=none
 tb:∃oT ts,h'.get? T=some oT/\oT.data=.fields ts/\ts[3]? =some (rawInt L)
theorem aGv{Q:Unit->BB->Prop}(hfr:A.frames=some (env::outer))(hl:s.heap.FunFrames base (env::outer))(hf:env.frame=some L)(he:s.heap.get? e=some oe)(hd:oe.data=.fields vs)(hz:1<vs.size)
  (k:∀h' T,Ent1 ((env::outer).filterMap (·.frame)) L e oe vs s.heap h' T->Q () {s with heap:=h'}):
  AE M A (do let a <-frameOf env;let pl <-entryPlaceOf L had;let b <-EntryCells.newEntry head a .none (rawInt L) .none pl;setField (.ref e) 1 b) Q E s:=by
 have nf:e∉(env::outer).filterMap (·.frame):=λhm=>by obtain⟨_,o,ho,hn⟩:=hl.mem hm;have:oe=o:=cC.inj<|he.symm.trans ho;exact hn vs<|this▸hd
 refine AA (wpAny_frameOf_fun hfr hl hf λh1 so=>AA<|wpAny_entryPlaceOf λpl hpl=> ?_);unfold EntryCells.newEntry newFields;refine AA (wpAny_newObj_type ?_<|hpl.sizeOk5 _ _ _ _ _);have e1:h1.get? e=some oe:=(so.2.1 e nf).trans he;generalize hts:([head,.ref L,.none,rawInt L,.none]++(if pl.isEmpty then bL 6 Value.none else pl)).toArray=ts
 have t3:ts[3]? =some (rawInt L):=by rw[<-hts];simp
 have e2:(h1.push {cls:=.type "traceback",dict:=none,data:=.fields ts}).get? e=some oe:=aC _ e1;have sz:h1.objs.size=s.heap.objs.size:=so.1;refine wpAny_setField e2 hd hz<|k _ h1.objs.size ⟨λb o ne nb q=> ?_,λb o ne q=> ?_, ?_,eX<|aK e1, ?_,{cls:=.type "traceback",dict:=none,data:=.fields ts},ts, ?_,rfl,t3⟩
 ·rw[cV _ _<|Ne.symm ne];exact aC _<|(so.2.1 b nb).trans q
 ·obtain⟨sl,w⟩:=so.2.2 b o q;refine⟨sl, ?_⟩;rw[cV _ _<|Ne.symm ne];exact aC _ w
 ·rw[cZ _ e2 (Obj.isFreed_of_fields<|Obj.data_mapFields hd _)];obtain⟨c,d,da,sl⟩:=oe;dsimp only at hd;subst hd;rfl
 ·rw[sz];exact jB<|aO _
 ·rw[cV _ _<|Ne.symm (eX<|aK e1)];exact aY h1 rfl
def DkI(fn:Str)(i:Int)(h:BE)(H:Hp)(a:BC):Prop:=∃oe dx,h.get? a=some oe/\oe.dict=some dx/\AtG fn i H dx
variable {Ex:BA->BB->Prop}{T:BC}{oT:BF}{ts:Array BA}
theorem aCD{fr:Option BC}{Q:Unit->BB->Prop}(he:s.heap.get? e=some oe)(hd:oe.data=.fields vs)(h1:vs[1]? =some (.ref T))(hT:s.heap.get? T=some oT)(hdT:oT.data=.fields ts)(hz:3<ts.size)
  (k:∀h',(∀b,b≠T->h'.get? b=s.heap.get? b)->(∃oT' ts',h'.get? T=some oT'/\oT'.data=.fields ts'/\ts'[3]? =some (fr.elim Value.none λf=>rawInt f))->Q () {s with heap:=h'}):
  AE M A (setFlight (.ref e) fr) Q Ex s:=by
 unfold setFlight;refine AA<|AR he hd h1 ?_;rw[if_pos (show(Value.ref T !=Value.none)=true from by simp)];exact wpAny_setField hT hdT hz<|k _ (λb hb=>cV _ _<|Ne.symm hb) ⟨_,_,cZ _ hT (Obj.isFreed_of_fields<|Obj.data_mapFields hdT _),Obj.data_mapFields hdT _,by simp[hz]⟩
noncomputable def CX2(P:AD)(w:AG)(fn:Str)(C:BC)(i:Int):CXT:=λouter H s E e s'=>∃a T H',e=.ref a/\s'.os=s.os/\AllBare s'.gens/\Un (frs outer) [] H H' s.heap s'.heap/\HOk P w H' s'.heap/\Exc s.heap s'.heap H' a T (.ref C)/\E (.ref a) (some a) H'/\DkI fn i s'.heap H' a
variable {dx:BC}{E:XK}
theorem aBm(I:Inv X pins σ H s)(hex:X.ex=[])(hst:X.stack=X.env::X.outer/\X.env.frame=some X.env.locals)(Ha:H a=none)(sa:X.s₀.heap.get? a=none)(he:s.heap.get? a=some (xT C t<|some (dx,i)))(ad:AtG fn i H dx)(hE:E (.ref a) (some a) H):
  AE (AF X.prog X.w) X.A (leaving X.env<|.ref a) (λ_ s''=>CX2 X.prog X.w fn C i X.outer X.H₀ X.s₀ E (.ref a) s'') Ex s:=by
 have fm:=I.ok.frames;rw[hst.1] at fm;have st:=I.stack;have fs:(X.env::X.outer).filterMap (·.frame)=frs X.stack:=by rw[hst.1];rfl
 rw[hst.1] at st;unfold leaving noteFrame;simp only[hst.2];refine AA (AA<|AR he (vs:= #[.ref t,.none,.none,.none,.bool false,.none]) rfl (x:=.none) rfl ?_);rw[if_neg<|by decide];refine aGv fm st hst.2 he rfl (show 1<6 by decide) λh1 T Z=> ?_
 obtain⟨oT,ts,g1,g2,g3⟩:=Z.tb;refine aCD (s:={s with heap:=h1}) (vs:= #[.ref t,.ref T,.none,.none,.bool false,.none]) Z.at_ rfl rfl g1 g2 (gD.mp g3).1 λh2 k2 ⟨oT2,ts2,w1,w2,w3⟩=> ?_
 have Ta:T≠a:=Z.ne;have g2e:h2.get? a=some {xT C t (some (dx,i)) with data:=.fields #[.ref t,.ref T,.none,.none,.bool false,.none]}:=(k2 a<|Ne.symm Ta).trans Z.at_
 have nT:∀b o,s.heap.get? b=some o->b≠T:=λb o q z=>by rw[z,Z.new] at q;cases q
 have fu:Heap.FunFrames s.heap (vP s.heap<|frs X.stack++[a]) X.stack:=wH I.env0.funs λb hb=>yV<|bH _ hb
 have na:∀b o,s.heap.get? b=some o->(∀vs,o.data≠ .fields vs)->b≠a:=λb o q nf z=>by rw[z,he] at q;cases q;exact nf _ rfl
 have up:∀b o,s.heap.get? b=some o->(∀vs,o.data≠ .fields vs)->∃sl,h2.get? b=some {o with slots:=sl}:=λb o q nf=>by obtain⟨sl,w⟩:=Z.slot b o (na b o q nf) q;exact⟨sl,(k2 b<|nT b o q).trans w⟩
 have L:Heap.LeftW (vP s.heap<|frs X.stack++[a]) X.stack a (.ref C) (.ref t) s.heap h2:=by
  refine⟨λb o q=> ?_,fu.of_keeps λb o q nf=> ?_,⟨_,_,T,oT2,ts2,g2e,⟨rfl,rfl⟩,rfl,rfl, ?_,Ta,w1,w2,w3⟩,up⟩
  ·obtain⟨q1,q2⟩:=qD q;exact(k2 b<|nT b o q2).trans<|Z.keep b o (λz=>q1<|by simp[z]) (λz=>q1 (bH _<|fs▸z)) q2
  ·obtain⟨sl,w⟩:=up b o q nf;exact⟨_,w,rfl⟩
  ·cases g:(vP s.heap<|frs X.stack++[a]).get? T with
   |none=>rfl
   |some o=>have:=(qD g).2;rw[Z.new] at this;cases this
 obtain⟨a',T',H',e',os,bare,un,hok,ex,eH⟩:=aII (E:=λ_ _ H'=>H'=H/\True) I hex hst (S:=[a]) (λb hb=>by rw[bX.mp hb];exact⟨Ha,sa⟩) (aBc a) L ⟨rfl,trivial⟩;cases e';cases eH.1;exact⟨a,T',_,rfl,os,bare,un,hok,ex,hE,_,dx,g2e,rfl,ad⟩
def aGC(X:Cx)(fn:Str)(C:BC)(i:Int)(sd:List Slot):Prop:=∀ (pins:List (BC×BF)) (σ:St) (F H:Hp) (s:BB) (a t dx:BC),Inv X pins σ H s->StF X.K X.B₀ F H σ sd->H a=none->X.s₀.heap.get? a=none->s.heap.get? a=some (xT C t<|some (dx,i))->AtG fn i F dx->X.xe (.ref a) s
theorem oQ{e:Expr}{Ed:fW}(xi:XIn X.K X.mg fn C CL fI)(h:PXn X sd e fn C i)(ht:aGC X fn C i sd)(hex:X.ex=[])(hc:X.calm=true:=by rfl):PSd1 X sd (.Raise (some e) none pos) Ed:=.mk λσ F H S pins s I=>by
 rw[arm_exec_Raise];simp only[evalOpt,aEK];refine AA<|As ?_;unfold raiseStmt;refine AA (AA<|AY (h.run σ F H S pins s I) (λv s1 ⟨u,H1,I1,r1,F1,a,t,dx,eu,n0,S1,s1',fa,na,ha,ad⟩=>AA (As<|AC ?_)) λ_ _ x=>x);subst eu;obtain rfl:v=Value.ref a:=r1;have he:s1.heap.get? a=some (xT C t<|some (dx,i)):=(I1.hok a _ ha).1;obtain⟨N,nm,q,bs,sn,sub,ab,col,dd,k0,k1,k2,k3,k5,mN,hC,_,_,T,_⟩:=sZ I1.kIn xi.ex;have hcB:(Value.ref C::.ref CL::qB).contains (.type "BaseException")=true:=rfl;have hh:X.A.handled=none:=I1.ok.hd hc
 have I2:Inv X pins σ (λb=>if b=a then none else H1 b) s1:=by
  refine Inv.reB I1 (λb hb=> ?_) (λb o e=> ?_) λb o e=> ?_
  ·show(if b=a then none else H1 b)=none
   split
   ·rfl
   ·exact hb
  ·show(if b=a then none else H1 b)=some o;rw[if_neg λz=>by rw[z] at e;have:=S1.base _ _ e;rw[fa] at this;cases this];exact S1.sub _ _<|S1.base _ _ e
  ·have e:(if b=a then none else H1 b)=some o:=e
   split at e
   ·cases e
   ·exact(I1.hok b o e).smp<|S1.smp b o e
 have S2:StF X.K X.B₀ F1 (λb=>if b=a then none else H1 b) σ sd:=by
  refine⟨S1.base,λb o e=> ?_,λb o e=> ?_,S1.slots.mono (Same.refl _) λl hl=>⟨(S1.slots.owns hl).1,λob e=> ?_⟩,S1.nd⟩
  ·show(if b=a then none else H1 b)=some o;rw[if_neg λz=>by rw[z,fa] at e;cases e];exact S1.sub _ _ e
  ·have e:(if b=a then none else H1 b)=some o:=e
   split at e
   ·cases e
   ·exact S1.smp _ _ e
  ·show(if l=a then none else H1 l)=some ob;rw[if_neg λ(z:l=a)=>na<|by rw[<-z];exact hl];exact e
 obtain⟨hp,gs,dr,tk,os⟩:=s1;have hE:X.xe (.ref a) ⟨hp,gs,dr,tk,os⟩:=ht pins σ F1 _ _ a t dx I2 S2 (by show(if a=a then none else H1 a)=none;rw[if_pos rfl]) n0 he ad;have he:hp.get? a=some {cls:=.ref C,dict:=some dx,data:=.fields #[.ref t,.none,.none,.none,.bool false,.none]}:=he;have hC:hp.get? C=_:=hC
 repeat (first|with_reducible refine AS he ?_|with_reducible refine AS hC ?_|(with_reducible refine wpAny_isSubtype_exc hC ?_;rw[hcB])|wp_step)
 exact wpAny_raiseNew_none hh hE
variable {fl:BA}
theorem uT{h':BE}{b:BC}(hex:X.ex=[])(I:Inv X pins σ H s)(q:s.heap.get? b=none):H b=none/\X.s₀.heap.get? b=none/\∀p∈X.pn++pins,p.1≠b:=by
 refine⟨?_, ?_,λp hp z=> ?_⟩
 ·cases g:H b with
  |none=>rfl
  |some u=>obtain⟨ob,q2⟩:=uV<|I.hok b u g;rw[q] at q2;cases q2
 ·cases g:X.s₀.heap.get? b with
  |none=>rfl
  |some o=>obtain⟨o1,q1⟩:=I.base.there b o g (λhb=>by rw[hex] at hb;cases hb);rw[q] at q1;cases q1
 ·have:=(I.pin p hp).1;rw[z,q] at this;cases this
theorem uG{Q:Unit->BB->Prop}(hst:X.stack=X.env::X.outer/\X.env.frame=some X.env.locals)(hfr:A.frames=some X.stack)(hex:X.ex=[])(h:aHt X pins σ H s a T cls .none)(dk:DkI fn i s.heap H a)(k:∀h' T',aHt X pins σ H {s with heap:=h'} a T' cls (rawInt X.env.locals)->DkI fn i h' H a->Q () {s with heap:=h'}):
  AE M A (noteFrame (.ref a) X.env) Q Ex s:=by
 have hS:=aAx h;obtain⟨oe,vs,oT,ts,a0,he,hc,hd,h1,hTe,hT,hdT,h3⟩:=h.obj;obtain⟨oe',dx,he',hdi,ad⟩:=dk;have e0:oe'=oe:=cC.inj<|he'.symm.trans he;subst e0;have I:=h.inv;have fm:=hfr;rw[hst.1] at fm;have st:=I.stack;rw[hst.1] at st;have fs:(X.env::X.outer).filterMap (·.frame)=frs X.stack:=by rw[hst.1];rfl
 have z3:3<ts.size:=(gD.mp h3).1;have z1:1<vs.size:=(gD.mp h1).1;have oth:∀b,b≠T->(s.heap.update T (Obj.mapFields (·.setIfInBounds 3 Value.none))).get? b=s.heap.get? b:=λb hb=>cV _ _<|Ne.symm hb
 have slf:(s.heap.update T (Obj.mapFields (·.setIfInBounds 3 Value.none))).get? T=some (oT.mapFields (·.setIfInBounds 3 Value.none)):=cZ _ hT (Obj.isFreed_of_fields<|Obj.data_mapFields hdT _)
 have nr:∀b o,s.heap.get? b=some o→(∀vs,o.data≠ .fields vs)→b≠T∧b≠a:=fun b o q nf=>⟨fun z=>by
  rw[z,hT] at q;cases q;exact nf _ hdT,λz=>by
  rw[z,he] at q;cases q
  exact nf _ hd⟩
 unfold noteFrame;simp only[hst.2];refine AA<|AR he hd h1 ?_;rw[if_pos (show(Value.ref T !=Value.none)=true from by simp)];refine AA<|AR hT hdT h3 ?_;rw[if_neg (show ¬ ((Value.none==rawInt X.env.locals)=true) from by simp[rawInt])];refine AA<|wpAny_setField hT hdT z3 ?_;refine aGv (s:={s with heap:=s.heap.update T (Obj.mapFields (·.setIfInBounds 3 Value.none))}) fm (st.of_keeps λb o q nf=>⟨o,(oth b (nr b o q nf).1).trans q,rfl⟩) hst.2 ((oth a<|Ne.symm hTe).trans he) hd z1 λh2 T' Z=> ?_
 have nT:s.heap.get? T'=none:=by rw[<-oth T' λz=>by have:=Z.new;rw[z] at this;exact nomatch this.symm.trans slf];exact Z.new
 obtain⟨oT',ts',w1,w2,w3⟩:=Z.tb
 have I2:=aCq I hS (h':=h2) (fun b o q=>by
  obtain⟨q1,q2⟩:=qD q
  exact Z.keep b o (λz=>q1 (by simp[z])) (λz=>q1 (bH _ (fs▸z))) ((oth b λz=>q1 (by simp[z])).trans q2)) (λb o q nf=>Z.slot b o (nr b o q nf).2 ((oth b (nr b o q nf).1).trans q))
 refine k h2 T' ⟨I2,h.fa,uT (h':=h2) hex I nT,_,_,oT',ts',a0,Z.at_,⟨hc.1,by rw[Array.getElem?_setIfInBounds_ne<|by decide];exact hc.2⟩,rfl,by simp[z1],Z.ne,w1,w2,w3⟩ ⟨_,dx,Z.at_,hdi,ad⟩
theorem lR{fr:Option BC}{Q:Unit->BB->Prop}(h:aHt X pins σ H s a T cls fl)(dk:DkI fn i s.heap H a)(k:∀h',aHt X pins σ H {s with heap:=h'} a T cls (fr.elim Value.none λf=>rawInt f)->DkI fn i h' H a->Q () {s with heap:=h'}):
  AE M A (setFlight (.ref a) fr) Q Ex s:=by
 have hS:=aAx h;obtain⟨oe,vs,oT,ts,a0,he,hc,hd,h1,hTe,hT,hdT,h3⟩:=h.obj;obtain⟨oe',dx,he',hdi,ad⟩:=dk;have e0:oe'=oe:=cC.inj<|he'.symm.trans he;subst e0;refine aCD he hd h1 hT hdT (gD.mp h3).1 λh2 k2 ⟨oT2,ts2,w1,w2,w3⟩=> ?_
 have ea:h2.get? a=some oe':=(k2 a<|Ne.symm hTe).trans he;refine k h2 ⟨aCq h.inv hS (λb o q=> ?_) λb o q nf=>⟨o.slots,(k2 b λz=> ?_).trans q⟩,h.fa,h.fT,oe',vs,oT2,ts2,a0,ea,hc,hd,h1,hTe,w1,w2,w3⟩ ⟨oe',dx,ea,hdi,ad⟩
 ·obtain⟨q1,q2⟩:=qD q;exact(k2 b λz=>q1<|by simp[z]).trans q2
 ·rw[z,hT] at q;cases q;exact nf _ hdT
def exiG(fn:Str)(C:BC)(i:Int):V->Hp->Prop:=λv H=>∃a oe dx,v=.ref a/\H a=some (exO a oe)/\oe.cls=.ref C/\oe.dict=some dx/\(∃vs,oe.data=.fields vs)/\AtG fn i H dx
noncomputable def aGt(fn:Str)(C:BC)(i:Int):D:=.any<|exiG fn C i
theorem AtG.mono{F':Hp}(h:AtG fn i F dx)(s:Same F F'):AtG fn i F' dx:=by obtain⟨od,u,e,r⟩:=h;exact⟨od,u,s _ _ e,r⟩
theorem StF.freezeO{H₀:Hp}{p:BC}{o:HO}(S:StF K H₀ F H σ sd)(hp:H p=some o)(ho:p∉cH sd):∃F',StF K H₀ F' H σ sd/\Same F F'/\F' p=some o:=by
 cases fp:F p with
 |some o'=>have:=S.sub _ _ fp;rw[hp] at this;cases this;exact⟨F,S,Same.refl _,fp⟩
 |none=>
  have s1:Same F (upd F p o):=λb u e=>by rw[bK<|cF e fp];exact e
  refine⟨upd F p o,⟨λb u e=>s1 _ _<|S.base _ _ e,λb u e=> ?_,S.smp,S.slots.mono s1 λl hl=>⟨?_,λob e=>e⟩,S.nd⟩,s1,bR⟩
  ·by_cases h:b=p
   ·subst h;rw[bR] at e;cases e;exact hp
   ·rw[bK h] at e;exact S.sub _ _ e
  ·rw[bK λz=>ho<|by rw[<-z];exact hl];exact(S.slots.owns hl).1
variable {E:fW}
def yT(X:Cx)(fn:Str)(C:BC)(i:Int)(sd:List Slot):Prop:=∀ (pins:List (BC×BF)) (σ:St) (F H:Hp) (s:BB) (a T:BC),Inv X pins σ H s->StF X.K X.B₀ F H σ sd->Exc X.s₀.heap s.heap H a T (.ref C)->DkI fn i s.heap H a->(∀p∈X.pn++pins,p.1≠a/\p.1≠T)->X.xe (.ref a) s
theorem aFj{body suite:List BG}{b₀:BG}{xE n:Str}{np hpos:Pos}{CE:BC}(j:Nat)(hN:X.N.Nodup)(hj:X.N[j]? =some n)(hloc:X.env.scope.names.lookup n=some .local)(hg:Gl X xE)(hm:X.mg xE=some (.ref CE))(hmt:gC X.K (.ref C) (.ref CE)=some true)
  (hb:∀ (ξ:BA->BB->Prop) (pn:List (BC×BF)) (F:Hp),yT {X with H₀:=F,B₀:=F,hB:=λ_ _ e _=>e,xe:=ξ,pn:=pn} fn C i sd->PSd {X with H₀:=F,B₀:=F,hB:=λ_ _ e _=>e,xe:=ξ,pn:=pn} sd body {nx:=λ_=>False,rt:=λ_=>False})
  (hh:∀ (a:BC) (pn:List (BC×BF)),PSd {X with A:=X.A.mark (some<|.ref a),calm:=false,pn:=pn,xe:=λ_ _=>False} (sd.set j (.val<|aGt fn C i)) (b₀::suite) {nx:=λsd'=>E.nx<|sd'.set j .un,rt:=λ_=>False})
  (how:cH sd=[]:=by rfl) (hB₀:X.B₀=X.H₀:=by rfl) (hex:X.ex=[]:=by rfl) (hst:X.stack=X.env::X.outer/\X.env.frame=some X.env.locals:=by exact⟨rfl,rfl⟩) (hdb:(xE==("__debug__":Str))=false:=by decide):
  PSd1 X sd (.Try body [.ExceptHandler (some<|.Name xE np) (some n) (b₀::suite) hpos] [] [] pos) E:=.mk λσ F H S pins s I=>by
 rw[hB₀] at S;obtain⟨ξ,hξ⟩:∃ξ:BA->BB->Prop,ξ=λe s'=>∃a T σ' F' H',e=.ref a/\Inv X pins σ' H' s'/\StF X.K F F' H' σ' sd/\Exc X.s₀.heap s'.heap H' a T (.ref C)/\DkI fn i s'.heap H' a/\∀p∈X.pn++pins,p.1≠a/\p.1≠T:=⟨_,rfl⟩
 have I':Inv {X with H₀:=F,B₀:=F,hB:=λ_ _ e _=>e,xe:=ξ,pn:=X.pn++pins} [] σ H s:=aLl I S rfl;have S':StF X.K F F H σ sd:=⟨Same.refl _,S.sub,S.smp,S.slots,S.nd⟩
 have tk:yT {X with H₀:=F,B₀:=F,hB:=λ_ _ e _=>e,xe:=ξ,pn:=X.pn++pins} fn C i sd:=λpins' σ' F' H' s' a T I2 S2 x2 d2 hp=>by show ξ _ _;rw[hξ];exact⟨a,T,σ',F',H',rfl,aKw I S rfl I2,S2,x2,d2,λp hp'=>hp p<|bH _ hp'⟩
 refine wpAny_Try_except<|AY (hb ξ (X.pn++pins) F tk σ F H S' [] s I') (λf s1 q=> ?_) λe s1 hx=> ?_
 ·cases f with
  |next=>obtain⟨_,_,_,_,_,_,_,z⟩:=q;exact z.elim
  |brk=>obtain⟨_,_,_,_,_,_,_,z⟩:=q;exact z.elim
  |cont=>obtain⟨_,_,_,_,_,_,_,z⟩:=q;exact z.elim
  |ret u=>obtain⟨_,_,_,_,_,_,_,z⟩:=q;exact z.elim
 ·have hx:ξ e s1:=hx;rw[hξ] at hx;obtain⟨a,T,σ1,F1,H1,rfl,I1,S1,x1,d1,hp⟩:=hx;have hd:aHt X pins σ1 H1 s1 a T (.ref C) .none:=⟨I1,⟨x1.free,x1.new,λp h=>(hp p h).1⟩,⟨x1.freeT,x1.newT,λp h=>(hp p h).2⟩,x1.obj⟩;refine uG hst I.ok.frames hex hd d1 λh2 T2 hd2 d2=> ?_
  refine lR hd2 d2 λh3 hd3 d3=> ?_
  have LT:PySem.W.Looks (AF X.prog X.w) h3 (typeOf<|.ref a) (.ref C):=by obtain⟨oe,vs,oT,ts,a0,he,hc,_⟩:=hd3.obj;exact hc.1▸(PySem.W.Looks.ld he).andThen .now
  refine wpAny_handleBy_cons (codeAny_handlers_test<|Calls.Name_function_global hd3.inv.ok.kind hg (Calls.loadGlobal_global (by rw[hd3.inv.ok.glob];exact hd3.inv.mod.glob.keeps hd3.inv.bk) hm<|(PySem.W.exm_one hd3.inv.kIn LT hmt).at ?_) hdb) (by intro q;cases q);refine codeAny_handlers_suite_as<|lR hd3 d3 λh4 hd4 d4=> ?_;obtain⟨oe,vs,oT,ts,a0,he,hc,hdt,_⟩:=hd4.obj;obtain⟨oe',dx,he',hdi,ad⟩:=d4;have e0:oe'=oe:=cC.inj<|he'.symm.trans he;subst e0
  have hl:X.env.locals≠a:=λz=>by obtain⟨m,⟨o,es,ep,ho,r,_⟩,_⟩:=hd4.inv.loc;rw[z] at ho;have:oe'=o:=cC.inj<|he.symm.trans ho;rw[<-this,hdt] at r;cases r
  have I5:=xW hd4.inv hd4.fa.1 he hd4.fa.2.1 hl (λv z=>by rw[hdt] at z;cases z) hd4.fa.2.2;have S1':StF X.K X.B₀ F1 H1 σ1 sd:=hB₀▸⟨λb o e=>S1.base _ _<|S.base _ _ e,S1.sub,S1.smp,S1.slots,S1.nd⟩
  obtain⟨od,u,hdx,ru⟩:=id ad;obtain⟨Fz,Sz,sz,fz⟩:=S1'.freezeO hdx (by rw[how];simp);have aF:AtG fn i Fz dx:=⟨od,u,fz,ru⟩;obtain⟨S5,s5⟩:=Sz.lay (o:=exO a oe') hd4.fa.1 trivial;refine pO (v:=.ref a) I5 hN hj (.inl hloc) rfl (λs6 I6=> ?_)<|.inr hloc
  have I7:Inv {X with A:=X.A.mark (some<|.ref a),calm:=false,pn:=X.pn++pins,xe:=λ_ _=>False} [] (σ1.set j (some<|.ref a)) (upd H1 a<|exO a oe') s6:=
   ⟨⟨I6.ok.mod,I6.ok.kind,I6.ok.glob,I6.ok.blt,I6.ok.above,I6.ok.inj,I6.ok.has,I6.ok.cab,λz=>(by cases z),I6.ok.frames,I6.ok.stk,I6.ok.exf,I6.ok.bs,I6.ok.bsz,I6.ok.noex,I6.ok.exfs,I6.ok.funs,I6.ok.frf⟩,I6.os,I6.bare,I6.base,I6.loc,I6.cell,I6.free,I6.freeC,λp hp=>by rw[dC] at hp;exact I6.pin p hp,I6.hok,I6.len⟩
  have S7:StF X.K X.B₀ (upd Fz a (exO a oe')) (upd H1 a (exO a oe')) (σ1.set j (some (.ref a))) (sd.set j (.val (aGt fn C i))):=S5.set j (by
   simp only[aGt,Rep]
   exact⟨⟨a,rfl⟩,λH' k=>⟨a,oe',dx,rfl,k _ _ bR,hc.1,hdi,⟨vs,hdt⟩,aF.mono (s5.trans k)⟩⟩)
  refine AY (hh a _ (σ1.set j (some<|.ref a)) _ _ S7 [] s6 I7) (λf s8 q=> ?_) λ_ _ z=>False.elim z
  cases f with
  |next=>
   obtain⟨σ8,H8,I8,sd8,F8,S8,s8',qn⟩:=q;have I9:Inv X pins σ8 H8 s8:=⟨I.ok,I8.os,I8.bare,I8.base,I8.loc,I8.cell,I8.free,I8.freeC,λp hp=>I8.pin p (by rw[dC];exact hp),I8.hok,I8.len⟩;obtain⟨m,hn,hl⟩:=id I9.loc;refine wpAny_nameGoes_keeps hloc hn (by rw[I9.ok.kind];rfl) λh9 v hn9 hs9=> ?_
   exact⟨σ8.set j none,H8,aFH I9 hN hj hloc hn hl hn9 hs9,sd8.set j .un,F8,⟨S8.base,S8.sub,S8.smp,S8.slots.set (z:=.un) (o:=none) trivial j,(jE (z:=.un) j S8.nd (λl hl=>by cases hl) fA).1⟩,λb o e=>s8' _ _<|s5 _ _ (sz _ _<|S1.base _ _ e),qn⟩
  |brk=>obtain⟨_,_,_,_,_,_,_,z⟩:=q;exact z.elim
  |cont=>obtain⟨_,_,_,_,_,_,_,z⟩:=q;exact z.elim
  |ret u=>obtain⟨_,_,_,_,_,_,_,z⟩:=q;exact z.elim
end DL
namespace DL
section
open PySem PySem.Spec PySem.Calls PySem.W PyProof.Rows Builtin Builtin.Getset_descriptor Builtin.ObjectAttr
variable {prog:AD}{w:AG}{A:BD}{E:BA->BB->Prop}{h:BE}{g:Array GenState}{d:Drawn}{t:Nat}{os:OsState}{a C:BC}{K:Frag}{ox od:BF}{name:Str}{v:BA}
theorem aNF{tk:Tok}{fi ex:Bool}{Q:BA->BB->Prop}(X:K.In h)(I:InstAt h a ox C (some od))(hf:findObj K C (some od) name=some (.value v))(hs:subIn K (.ref C) (.type "BaseException")=some true)
  (hg:findIn K (.ref C) "__getattribute__"=some (some<|.builtin "BaseException.__getattribute__")) (hn:findIn K (.ref C) "__getattr__"=some none) (hh:handedIn v=true)
  (hq:Q v ⟨h,g,d,t,os⟩):AE (AF prog w) A (getAttrBy (.ref a) (.str name tk) fi ex) Q E ⟨h,g,d,t,os⟩:=by
 have f3:=F.attr_ValueError.ga.bind<|.ref a;have hx0:(ex&&onTheHeap (Value.builtin "BaseException.__getattribute__"))=false:=by cases ex<;>rfl
 have hx2:(Value.builtin "BaseException.__getattribute__"==Value.builtin "object.__getattribute__")=false:=by decide+kernel
 have hx1:(onTheHeap (Value.ref C)&&Value.builtin "BaseException.__getattribute__"==Value.builtin "object.__getattribute__")=false:=by rw[hx2];rfl
 have L1:=looks_findIn (M:=AF prog w) X hg;have L2:=looks_findIn (M:=AF prog w) X hn;have hx:=I.at_;have hc:=I.cls;have EA:ExA a C h:=⟨ox,hx,hc⟩
 repeat (any_goals (first|assumption|(with_reducible refine AS hx ?_;rw[hc])|with_reducible refine L1.at ?_|with_reducible refine L2.at ?_|wp_step))
 refine Ab F.attr_ValueError.ga.plain F.entry_bexc_ga<|aAv X EA hs ?_;refine AA (AC<|AA (AC<|AA (EA.type.at<|AA ((looks_find X I hf).at<|AC ?_))));show AE _ _ (handedOut v) _ _ _;rw[handedOut_of hh];exact AC hq
theorem aLx{Q:BA->BB->Prop}{ex:Bool}(X:K.In h)(I:InstAt h a ox C (some od))(hf:findObj K C (some od) name=some (.value v))(hs:subIn K (.ref C) (.type "BaseException")=some true)
  (hg:findIn K (.ref C) "__getattribute__"=some (some<|.builtin "BaseException.__getattribute__")) (hn:findIn K (.ref C) "__getattr__"=some none) (hh:handedIn v=true)
  (hq:Q v ⟨h,g,d,t+1,os⟩):AE (AF prog w) A (getAttr (.ref a) name ex) Q E ⟨h,g,d,t,os⟩:=by
 unfold getAttr;refine AA<|wpAny_mkText ?_;exact aNF X I hf hs hg hn hh hq
end
open PySem PySem.Spec PyProof.Rows L2
structure XAt(K:aA)(fn:Str)(C:BC):Prop where
 xc:aGq K C
 hd:rF K C=true
 fa:cS K (.ref C) fn=some none
theorem aDj{prog:AD}{w:AG}{A:BD}{Ex:BA->BB->Prop}{K:aA}{fn:Str}{C a dx:BC}{i:Int}{H:Hp}{s:BB}{oe:BF}{ex:Bool}{Q:BA->BB->Prop}(xa:XAt K fn C)(X:K.In s.heap)(he:s.heap.get? a=some oe)(hc:oe.cls=.ref C)(hd:oe.dict=some dx)(hf:∃vs,oe.data=.fields vs)(ad:AtG fn i H dx)(hok:∀o,H dx=some (exO dx o)->s.heap.get? dx=some o)
  (k:∀u,RelV (.int i) u->Q u {s with toks:=s.toks+1}):AE (AF prog w) A (getAttr (.ref a) fn ex) Q Ex s:=by
 obtain⟨od,u,e,ru,ns⟩:=ad;obtain⟨od',g1,g2⟩:=wQ (ns s.heap<|hok od e);obtain⟨vs,hf⟩:=hf;obtain⟨t',rfl⟩:=ru;obtain⟨h,g,d,t,os⟩:=s;refine aLx X ⟨he,hc, ?_, ?_⟩ (PySem.W.findObj_own xa.hd xa.fa rfl<|by rw[g2,if_pos rfl]) xa.xc.hs xa.xc.hg xa.xc.hn rfl<|k _ ⟨t',rfl⟩
 ·unfold PySem.W.notCls;rw[hf]
 ·rw[hd];exact g1
variable {X:Cx}{sd:List Slot}{pos:Pos}{fn:Str}{C:BC}{i:Int}
theorem yA{K:aA}{H₀ F H:Hp}{σ:St}{j:Nat}(S:StF K H₀ F H σ sd)(hs:sd[j]? =some (.val<|aGt fn C i)):∃ad oe dx,σ[j]? =some (some<|.ref ad)/\H ad=some (exO ad oe)/\oe.cls=.ref C/\oe.dict=some dx/\(∃vs,oe.data=.fields vs)/\AtG fn i H dx:=by obtain⟨o,h1,v,h2,h3⟩:=S.slots.get hs;simp only[aGt,Rep] at h3;obtain⟨ad,oe,dx,rfl,g,c,dd,fl,at_⟩:=h3.2 H S.sub;subst h2;exact⟨ad,oe,dx,h1,g,c,dd,fl,at_⟩
theorem nD(j:Nat){CE:BC}{k:Bool}{y x:Str}{p p1 p2:Pos}(xc:aGq X.K C)(hg:Gl X "isinstance")(hm:X.mg "isinstance"=none)(hgx:Gl X x)(hmx:X.mg x=some (.ref CE))(hk:aV X.K (.ref C) (.ref CE)=some k)(hj:sd[j]? =some (.val<|aGt fn C i))(hy:PE X (.Name y p1) (mU j))(hdb:(x==("__debug__":Str))=false:=by decide)
  (he:AB (.Name y p1::[.Name x p2]) X.env=(false,eval (.Name y p1) X.env)::AB [.Name x p2] X.env:=by rfl) (hpl:(AX pos<|AB [.Name x p2] X.env).any (·.1)=false:=by rfl) (hs2:AB [.Name x p2] X.env=(false,eval (.Name x p2) X.env)::AB [] X.env:=by rfl):
  PEd X sd (.Call (.Name "isinstance" p) [.Name y p1, .Name x p2] [] pos) (.val<|.bl k):=.mk λσ F H S=>by
 obtain⟨ad,oe,dx,h1,g,c,_⟩:=yA S hj
 exact(qJ (uI (cv:=.ref CE) xc (λu' r=>r) hk) hg hm boot_isinstance (eF hy (eF (pG hgx hmx (v:=.ref CE) rfl hdb) pa_nil hs2) he) (by decide) (by decide) he hpl).to
  ⟨.ref ad,h1,⟨ad,oe,rfl,g,c⟩,F,S,Same.refl _,by simp only[ResOk,Rep]⟩
theorem aEh(j:Nat){k:Bool}{y x:Str}{n:String}{p p1 p2:Pos}(xc:aGq X.K C)(hg:Gl X "isinstance")(hm:X.mg "isinstance"=none)(hgx:Gl X x)(hmx:X.mg x=none)(hv:AT x=some (.type n))(hk:aV X.K (.ref C) (.type n)=some k)(hj:sd[j]? =some (.val<|aGt fn C i))(hy:PE X (.Name y p1) (mU j))(hn:x≠"__name__":=by decide)(hdb:(x==("__debug__":Str))=false:=by decide)
  (he:AB (.Name y p1::[.Name x p2]) X.env=(false,eval (.Name y p1) X.env)::AB [.Name x p2] X.env:=by rfl) (hpl:(AX pos<|AB [.Name x p2] X.env).any (·.1)=false:=by rfl) (hs2:AB [.Name x p2] X.env=(false,eval (.Name x p2) X.env)::AB [] X.env:=by rfl):
  PEd X sd (.Call (.Name "isinstance" p) [.Name y p1, .Name x p2] [] pos) (.val<|.bl k):=.mk λσ F H S=>by
 obtain⟨ad,oe,dx,h1,g,c,_⟩:=yA S hj
 exact(qJ (uI (cv:=.ty n) xc (λu' r=>r) hk) hg hm boot_isinstance (eF hy (eF (aDq hgx hmx hv hn hdb) pa_nil hs2) he) (by decide) (by decide) he hpl).to
  ⟨.ref ad,h1,⟨ad,oe,rfl,g,c⟩,F,S,Same.refl _,by simp only[ResOk,Rep]⟩
theorem aKS(j:Nat){y:Str}{p1 ap:Pos}(xa:XAt X.K fn C)(hj:sd[j]? =some (.val<|aGt fn C i))(hy:PE X (.Name y p1) (mU j))(hb:Ao (.Name y p1) fn X.env (eval (.Name y p1) X.env)=eval (.Name y p1) X.env:=by rfl):PEd X sd (.Attribute (.Name y p1) fn ap) (.val<|.int i):=.mk λσ F H S pins s I=>by obtain⟨ad,oe,dx,h1,g,c,dd,fl,at_⟩:=yA S hj;refine aDA hb<|thn (hy pins s σ H (λv H'=>v=.ref ad/\H'=H) I ⟨.ref ad,h1,rfl,rfl⟩) λu s1 ⟨v,H1,I1,rv,e1,e2⟩=> ?_;subst e1 e2;obtain rfl:u=Value.ref ad:=rv;exact aDj xa I1.kIn (I1.hok ad _ g).1 c dd fl at_ (λo e=>(I1.hok dx _ e).1) λu ru=>⟨.int i,H1,I1.tok _,ru,F,S,Same.refl _,by simp only[ResOk,Rep]⟩
theorem aLa{e:Expr}{ap:Pos}(xa:XAt X.K fn C)(h:PXn X sd e fn C i)(hb:Ao e fn X.env (eval e X.env)=eval e X.env:=by rfl):PEd X sd (.Attribute e fn ap) (.val<|.int i):=.mk λσ F H S pins s I=>by refine aDA hb (thn (h.run σ F H S pins s I) λu s1 ⟨v,H1,I1,rv,F1,a,t,dx,ev,n0,S1,s1',fa,na,ha,ad⟩=> ?_);subst ev;obtain rfl:u=Value.ref a:=rv;exact aDj xa I1.kIn (I1.hok a _ ha).1 rfl rfl ⟨_,rfl⟩ (ad.mono S1.sub) (λo e=>(I1.hok dx _ e).1) λu ru=>⟨.int i,H1,I1.tok _,ru,F1,S1,s1',by simp only[ResOk,Rep]⟩
structure jX(P:AD)(w:AG)(K:aA)(mg:Str->Option BA)(base:BE)(x:Str)(k n:Nat)(Q:Int->List D->Prop)(fn:Str)(C:BC):Prop where
 ex:∃ (f:BC) (fd:AJ) (ps:List Str),mg x=some (.ref f)/\bS K (.ref f)=true/\Binds K fd ps []/\∀i,FnOk P w K mg base (CX2 P w fn C i) k f fd ps (spX K n<|Q i)
theorem aBa{e:Expr}{es:List Expr}{x:Str}{p:Pos}{k n:Nat}{ds:List D}{Q:Int->List D->Prop}(G:jX X.prog X.w X.K X.mg X.base x k n Q fn C)(hr:Room k X.A)(hg:Gl X x)(ha:PAd X sd (e::es) (ds.map R.val))(hc:Q i ds)(hn:ds.length=n)(ht:yT X fn C i sd)(hex:X.ex=[]:=by rfl)
  (hdb:(x==("__debug__":Str))=false:=by decide) (he:AB (e::es) X.env=(false,eval e X.env)::AB es X.env:=by rfl) (hpl:(AX pos<|AB es X.env).any (·.1)=false:=by rfl):
  PEx X sd (.Call (.Name x p) (e::es) [] pos):=⟨fun σ F H S pins s I=>by
 obtain⟨f,fd,ps,hm,hk,bd,G⟩:=G.ex;refine AZ<|pM I hg hm ?_ hdb;refine oZ (h₀:=X.base) I.ok.mod.kin hk (thn (ha σ F H S pos pins s I) λus s1 ⟨vs,H1,I1,r,F1,S1,s1',q⟩=>⟨I1.kIn, ?_⟩) he hpl;have rl:RepL X.K H1 ds vs:=q.vals.mono S1.sub
 refine aIK (dvs:=[]) (dws:=[]) (Q:=fun _ _=>False) (Ex:=fun _ _ H'=>Same H1 H'∧Smp H') (G i) hr bd .nil I1 r (by
  rw[dC]
  exact⟨by rw[rl.len];exact hn,S1.smp,ds,rl,hc,λa H' q1 q2=>⟨q1,q2⟩⟩) λe s' hcx=> ?_
 obtain⟨a,T,H',rfl,os,bare,un,hok,x,⟨sH,smH⟩,dk⟩:=hcx;obtain⟨a',T',H2,e2,I2,S2,x2,pn⟩:=aIw hex I1 S1 (e:=.ref a) (cls:=.ref C) ⟨a,T,H',rfl,os,bare,un,hok,x,sH,smH⟩;have I3:Inv X pins σ H' s':=I1.call' os un hok bare (λb z=>absurd z<|by simp);have fr:∀b,s1.heap.get? b=none->X.s₀.heap.get? b=none:=λb q=>(uT (h':=s1.heap) hex I1 q).2.1
 have nw:∀b,s1.heap.get? b=none->∀p∈X.pn++pins,p.1≠b:=λb q=>(uT (h':=s1.heap) hex I1 q).2.2
 exact ht pins σ F1 H' s' a T I3 ⟨S1.base,S1.sub.trans sH,smH,S1.slots.mono (Same.refl _) λl hl=>⟨(S1.slots.owns hl).1,λob e=>sH _ _ e⟩,S1.nd⟩ ⟨x.free,fr a x.new,x.freeT,fr T x.newT,x.obj⟩ dk λp hp=>⟨nw a x.new p hp,nw T x.newT p hp⟩⟩
variable {P:AD}{w:AG}{K:aA}{mg:Str->Option BA}{base:BE}{x qual:Str}{st:BG}{f:BC}{fd:AJ}{N ps:List Str}{k:Nat}
theorem oV{scope:Scope}{cdv:BA}{A:BD}{outer:List Env}{s:BB}{H:Hp}{E:XK}(hE:∀a H',Same H H'->Smp H'->E (.ref a) (some a) H'):aGC (jQ (CX2 P w fn C i) P w K mg base N qual scope f cdv A outer s H E) fn C i sd:=λpins σ F H' s' a t dx I S Ha sa he ad=>aBm (X:=jQ (CX2 P w fn C i) P w K mg base N qual scope f cdv A outer s H E) (E:=E) I rfl ⟨rfl,rfl⟩ Ha sa he (ad.mono S.sub)<|hE a H' (λb o e=>S.sub _ _<|S.base _ _ e) S.smp
end DL
namespace DL
open PySem PySem.Spec PyProof.Rows L2
theorem lkT1:typeLookup (.type "str") "__int__"=pure none:=by rw[typeLookup_type,builtinLookup_eq_fast];kernel_rfl
theorem lkT2:typeLookup (.type "str") "__index__"=pure none:=by rw[typeLookup_type,builtinLookup_eq_fast];kernel_rfl
theorem lkT3:typeLookup (.type "str") "__trunc__"=pure none:=by rw[typeLookup_type,builtinLookup_eq_fast];kernel_rfl
noncomputable def bZ(n:Nat):Str:=if n<10 then⟨#[48+n]⟩ else⟨#[48+n / 10,48+n%10]⟩
theorem aIk:∀n:Nat,n<64->Str.ofString (toString (n:Int))=bZ n:=by decide+kernel
noncomputable def Its(x:Str):It:=⟨λi _=>i<x.cps.size,λi H v H'=>H'=H/\∃c,x.cps[i]? =some c/\v=.str ⟨#[c]⟩,λi _=>x.cps.size<=i⟩
theorem aFq{P:AD}{w:AG}{K:aA}{tg:Expr}(it:BC)(x:Str)(t:Tok):aGn P w K tg (Its x) [it] it (λi h=>h.IsStrIter it "str_ascii_iterator" x t i) where
 mem:=by simp
 obj:=λi h st b hb=>by
  have e:b=it:=by simpa using hb
  subst e;obtain⟨o,e,c,d⟩:=st;exact⟨o,e,λv z=>by rw[d] at z;cases z⟩
 keep:=λi h h' st k=>by obtain⟨o,e,r⟩:=st;exact⟨o,k it (by simp) o e,r⟩
 item:=by
  intro X hP hw hK hc i pins s σ H E I hf st hg;subst hP hw hK;obtain⟨f0,f1,f2,f3,f4,f5⟩:=hf it (by simp);have hi:i<x.cps.size:=hg;refine wpAny_pyNext_ascii_item st (c:=x.cps[i]) (by simp[hi]) λh' st' sb=> ?_
  have I1:Inv X pins σ H {s with heap:=h',toks:=s.toks+1}:=I.turned (λb o hb e=>(sb.2 b hb).trans e) f0 f1 f3 f4 f5;obtain⟨o,e,c,d⟩:=id st';exact⟨_,rfl,aEU (s:={s with heap:=h',toks:=s.toks+1}) e c d (by decide) ⟨.str ⟨#[x.cps[i]]⟩,H,I1,⟨_,rfl⟩,⟨rfl,x.cps[i],by simp[hi],rfl⟩,st',λb hb=>(hf b hb).1⟩⟩
 done:=by intro X hP hw hK hc i pins s σ H E I hf st hg;subst hP hw hK;obtain⟨f0,f1,f2,f3,f4,f5⟩:=hf it (by simp);have hi:x.cps.size<=i:=hg;exact wpAny_pyNext_ascii_end (I.ok.hd hc) st (by simp[hi]) λh' eb=>⟨rfl,I.turned (t':=s.toks) (λb o hb e=>eb b o hb e) f0 f1 f3 f4 f5⟩
 self:=λ_ _ _ _ _ st h=>wpAny_pyIter_striter_ascii st h
noncomputable def lG(x:Str):List D:=x.cps.toList.map λc=>D.str ⟨#[c]⟩
variable {X:Cx}{sd:List Slot}{e a b c tg iter o:Expr}{es:List Expr}{pos:Pos}{r ra rb:R}{d d':D}{ds ls:List D}{rest:List BG}{E:fW}
theorem aCQ{x:Str}(h:PEd X sd iter (.val<|.str x))(ha:x.cps.all (·<128)=true):PId X sd PT0 tg iter (lG x):=.mk λσ F H S pins s I=>by
 refine thn (h σ F H S pins s I) λv s1 ⟨y,H1,I1,r1,F1,S1,sF,q1⟩=> ?_
 simp only[ResOk,Rep] at q1;subst q1;obtain⟨t,rfl⟩:=r1;refine wpAny_pyIter_ascii ha ?_;refine⟨s1.heap.objs.size,[s1.heap.objs.size],_,Its x,H1,rfl,I1.kept (t':=s1.toks) λb o e=>aC _ e,aFq _ x t,⟨_,aY _ rfl,rfl,rfl⟩,λb hb=> ?_,F1,S1,sF, ?_⟩
 ·have e:b=s1.heap.objs.size:=by simpa using hb
  subst e;exact I1.fpOk (aO _) (I1.hok.fresh<|aO _)
 ·intro F2 H2 _ _ _ _ i;refine⟨λhi=>(show i<x.cps.size by simpa[lG] using hi),λhi=>(show x.cps.size<=i by simpa[lG] using hi),λy H' d hd yy=> ?_⟩;obtain⟨rfl,c,hc,rfl⟩:=yy
  have:d=.str ⟨#[c]⟩:=by unfold lG at hd;rw[bQ,Array.getElem?_toList,hc] at hd;exact(cC.inj hd).symm
  subst this;exact⟨F2,Same.refl _,by simp only[Rep],λ_ _ _ S=>S⟩
mutual
noncomputable def pyD:D->PyData
 |.non=>.none
 |.bl b=>.bool b
 |.int i=>.int i
 |.str x=>.str x
 |.tup ds=>.tuple<|pyL ds
 |.lst ds=>.list<|pyL ds
 |.dic=>.none
 |.dki _ _=>.none
 |.any _=>.none
 |.scr _=>.none
noncomputable def pyL:List D->List PyData
 |[]=>[]
 |d::ds=>pyD d::pyL ds
end
theorem aDu{c:Nat}:∀ {a a' b b':List Nat},c∉a->c∉a'->a++c::b=a'++c::b'->a=a'/\b=b'
 |[],[],b,b',_,_,h=>⟨rfl,by simpa using h⟩
 |[],x::a',b,b',_,h2,h=>by simp at h;exact absurd (by rw[h.1];exact aM) h2
 |x::a,[],b,b',h1,_,h=>by simp at h;exact absurd (by rw[<-h.1];exact aM) h1
 |x::a,y::a',b,b',h1,h2,h=>by simp at h;obtain⟨e1,e2⟩:=aDu (λz=>h1<|aH _ z) (λz=>h2<|aH _ z) h.2;exact⟨by rw[h.1,e1],e2⟩
theorem gM(c:Nat)(x y:Str)(r:List Str):(Str.join ⟨#[c]⟩ (x::y::r)).cps.toList=x.cps.toList++c::(Str.join ⟨#[c]⟩ (y::r)).cps.toList:=by show((x++⟨#[c]⟩++Str.join ⟨#[c]⟩ (y::r)).cps).toList=_;simp[Str.cps_append]
theorem aAt(c:Nat):∀ {xs ys:List Str},xs≠[]->ys≠[]->(∀p∈xs,c∉p.cps.toList)->(∀p∈ys,c∉p.cps.toList)->(Str.join ⟨#[c]⟩ xs).cps.toList=(Str.join ⟨#[c]⟩ ys).cps.toList->xs=ys
 |[],_,h,_,_,_,_=>absurd rfl h
 |_,[],_,h,_,_,_=>absurd rfl h
 |[x],[y],_,_,_,_,h=>by have:x.cps.toList=y.cps.toList:=h;rw[Str.ext'<|fH.mp this]
 |[x],y::z::r,_,_,h1,_,h=>by rw[gM] at h;have h:x.cps.toList=y.cps.toList++c::_:=h;exact absurd (by rw[h];simp)<|h1 x aM
 |x::z::r,[y],_,_,_,h2,h=>by rw[gM] at h;have h:_=y.cps.toList:=h;exact absurd (by rw[<-h];simp)<|h2 y aM
 |x::x2::r,y::y2::r',_,_,h1,h2,h=>by rw[gM,gM] at h;obtain⟨e1,e2⟩:=aDu (h1 x aM) (h2 y aM) h;rw[Str.ext'<|fH.mp e1,aAt c (by simp) (by simp) (λp hp=>h1 p<|aH _ hp) (λp hp=>h2 p<|aH _ hp) e2]
theorem hR(x y:Str):Txt.split x y≠[]:=by
 unfold Txt.split
 split
 ·simp
 ·split
  ·simp
  ·obtain⟨p,r,e⟩:=StrLaws.partsFrom_ne x y.length 0 (Builtin.Str.occurrences x y 0 x.length<|x.length+1);rw[StrLaws.partsBetween_eq,e];simp
theorem oX(c:Nat){ps:List Str}(h:ps≠[])(hf:∀p∈ps,c∉p.cps.toList):Txt.split (Txt.join ⟨#[c]⟩ ps) ⟨#[c]⟩=ps:=by refine aAt c (hR _ _) h (StrLaws.split_free _ c) hf ?_;rw[StrLaws.join_split];show(Builtin.Str.glued _ ps).cps.toList=_;rw[StrLaws.glued_eq_join]
theorem aAm(sep:Str):∀ {xs ys:List Str},xs≠[]->ys≠[]->Str.join sep (xs++ys)=Str.join sep xs++sep++Str.join sep ys
 |[],_,h,_=>absurd rfl h
 |[x],y::ys,_,_=>rfl
 |[x],[],_,h=>absurd rfl h
 |x::x2::xs,ys,_,h=>by show x++sep++Str.join sep (x2::xs++ys)=x++sep++Str.join sep (x2::xs)++sep++Str.join sep ys;rw[aAm sep (by simp) h];simp only[Str.append_assoc]
theorem aIq{a y b:Str}(hno:∀k,k<a.length->¬ (((a++y++b).cps.toList.drop k).take y.length=y.cps.toList)):Txt.partition (a++y++b) y=(a,y,b):=by
 have la:a.cps.toList.length=a.length:=by simp[Str.length]
 have ly:y.cps.toList.length=y.length:=by simp[Str.length]
 have lb:b.cps.toList.length=b.length:=by simp[Str.length]
 have lx:(a++y++b).length=a.length+y.length+b.length:=by rw[Str.length_append,Str.length_append]
 have ex:(a++y++b).cps.toList=a.cps.toList++(y.cps.toList++b.cps.toList):=by simp[Str.cps_append]
 have at1:StrLaws.At (a++y++b) y (a++y++b).length a.length:=by refine⟨by omega, ?_⟩;rw[StrLaws.subAt_eq,ex,beq_iff_eq,nH la,nG ly]
 have e1:Builtin.Str.strSub (a++y++b) 0 a.length=a:=by refine Str.ext' (fH.mp ?_);rw[StrLaws.strSub_toList,ex,dM,aEE,nG la]
 have e2:Builtin.Str.strSub (a++y++b) (a.length+y.length) (a++y++b).length=b:=by refine Str.ext' (fH.mp ?_);rw[StrLaws.strSub_toList,ex,<-lI,nH (by rw[aU,la,ly]),lx];exact eR (by rw[lb];omega)
 unfold Txt.partition
 rcases StrLaws.occ_head (a++y++b) y 1 (aO 1) with⟨h0,hn⟩|⟨i,r,h0,hi,hn⟩
 ·exact absurd at1<|hn _
 ·have:i=a.length:=by
   rcases Nat.lt_trichotomy i a.length with q|q|q
   ·have h2:=hi.2;rw[StrLaws.subAt_eq,beq_iff_eq] at h2;exact absurd h2<|hno i q
   ·exact q
   ·exact absurd at1<|hn _ q
  subst this;rw[h0];dsimp only;rw[e1,e2]
noncomputable def spT:Str:=⟨#[32]⟩
noncomputable def nlT:Str:=⟨#[10]⟩
noncomputable def prT:Str:=" price "
noncomputable def stW(k i j:Nat):List Str:=if k<7 then[nm k,bZ i,bZ j] else[nm k,bZ i]
noncomputable def aJC:List Nat->Bool
 |32::112::_=>false
 |_::l=>aJC l
 |[]=>true
noncomputable def okW(ws:List Str):Bool:=ws.all λp=> !p.cps.toList.contains 32&&!p.cps.toList.contains 10
theorem aKP:∀k,k<10->∀i,i<6->∀j,j<64->(aJC (Txt.join spT<|stW k i j).cps.toList&&(okW (stW k i j)&&decide ((Txt.join spT<|stW k i j).length<=20)))=true:=by decide+kernel
theorem aDB:∀ {l:List Nat},aJC l=true->∀ (r:List Nat) (k:Nat),k<l.length->¬ ∃t,(l++32::r).drop k=32::112::t
 |[],_,r,k,hk,_=>by simp at hk
 |x::l,h,r,0,_,⟨t,e⟩=>by
  simp only[tI,dM,iF.injEq] at e;obtain⟨rfl,e⟩:=e;cases l with
  |nil=>simp at e
  |cons y l=>simp only[tI,iF.injEq] at e;obtain⟨rfl,_⟩:=e;simp[aJC] at h
 |x::l,h,r,k+1,hk,⟨t,e⟩=>by
  refine aDB (l:=l) ?_ r k (by simpa using hk) ⟨t,by simpa using e⟩;unfold aJC at h
  split at h
  ·cases h
  ·rename_i h2;cases h2;exact h
  ·rename_i h2;cases h2
theorem xO{sep:Str}{ss:List Str}{B:Nat}(hB:∀y∈ss,y.length<=B)(h:ss.length*B+ss.length*sep.length<=16777216):JoinOk sep ss=true:=by unfold JoinOk;have:=StrLaws.joinFits hB h;simpa using this
theorem aFX{sep:Str}{ss:List Str}{B:Nat}(hB:∀y∈ss,y.length<=B):(Txt.join sep ss).length<=ss.length*B+ss.length*sep.length:=by have h1:=StrLaws.join_length_le sep ss;have h2:=StrLaws.sumLen_le ss hB;show(Builtin.Str.glued sep ss).length<=_;rw[StrLaws.glued_eq_join];omega
theorem nR:∀n,n<64->((bZ n).length<=2/\1<=(bZ n).length)/\((bZ n).cps.all (·<128)=true/\(!(bZ n).cps.toList.contains 32&&!(bZ n).cps.toList.contains 10)=true):=by decide+kernel
noncomputable def lnT(k i j pr:Nat):Str:=Txt.join spT<|stW k i j++[("price":Str),bZ pr]
theorem nQ{k i j:Nat}(hk:k<10)(hi:i<6)(hj:j<64):aJC (Txt.join spT<|stW k i j).cps.toList=true/\okW (stW k i j)=true/\(Txt.join spT<|stW k i j).length<=20:=by have h:=aKP k hk i hi j hj;simp only[aR,decide_eq_true_eq] at h;exact⟨h.1,h.2.1,h.2.2⟩
theorem aGu(k i j:Nat):stW k i j≠[]:=by unfold stW;split<;>simp
theorem aDh(k i j:Nat):2<=(stW k i j).length/\(stW k i j).length<=3:=by unfold stW;split<;>simp
theorem tY{ws:List Str}(h:okW ws=true):∀p∈ws,32∉p.cps.toList/\10∉p.cps.toList:=λp hp=>by have:=bJ.mp h p hp;simpa using this
theorem aHF(k i j pr:Nat):lnT k i j pr=Txt.join spT (stW k i j)++prT++bZ pr:=by
 show Builtin.Str.glued _ _=Builtin.Str.glued _ _++_++_;rw[StrLaws.glued_eq_join,StrLaws.glued_eq_join,aAm spT (aGu k i j)<|by simp];show Str.join spT (stW k i j)++spT++(("price":Str)++spT++bZ pr)=_;have e:prT=spT++("price":Str)++spT:=by decide+kernel
 rw[e];simp only[Str.append_assoc]
theorem aIy{k i j pr:Nat}(hk:k<10)(hi:i<6)(hj:j<64):Txt.partition (lnT k i j pr) prT=(Txt.join spT<|stW k i j,prT,bZ pr):=by
 rw[aHF];refine aIq λm hm e=> ?_
 obtain⟨h1,_,_⟩:=nQ hk hi hj;have ep:prT.cps.toList=[32,112,114,105,99,101,32]:=by decide+kernel
 have ex:(Txt.join spT (stW k i j)++prT++bZ pr).cps.toList=(Txt.join spT<|stW k i j).cps.toList++32::([112,114,105,99,101,32]++(bZ pr).cps.toList):=by rw[Str.cps_append,Str.cps_append,aEG,aEG,ep];simp
 refine aDB h1 ([112,114,105,99,101,32]++(bZ pr).cps.toList) m (by simpa[Str.length] using hm) ?_;rw[ex,ep] at e;have l7:prT.length=7:=by decide+kernel
 rw[l7] at e;generalize ((Txt.join spT<|stW k i j).cps.toList++32::([112,114,105,99,101,32]++(bZ pr).cps.toList)).drop m=l at e
 match l,e with
 |a::b::l,e=>simp only[pB,iF.injEq] at e;exact⟨l,by rw[e.1,e.2.1]⟩
 |[a],e=>simp at e
 |[],e=>simp at e
theorem aEY{k i j:Nat}(hk:k<10)(hi:i<6)(hj:j<64):Txt.split (Txt.join spT<|stW k i j) spT=stW k i j:=by obtain⟨_,h2,_⟩:=nQ hk hi hj;exact oX 32 (aGu k i j) λp hp=>(tY h2 p hp).1
theorem vW{c d:Nat}(hcd:c≠d):∀ {ss:List Str},(∀p∈ss,c∉p.cps.toList)->c∉(Str.join ⟨#[d]⟩ ss).cps.toList
 |[],_=>by show c∉([]:List Nat);simp
 |[x],h=>h x aM
 |x::y::r,h=>by
  rw[gM];intro z
  rcases aW.mp z with z|z
  ·exact h x aM z
  ·rcases aG.mp z with z|z
   ·exact hcd z
   ·exact vW hcd (λp hp=>h p<|aH _ hp) z
theorem aNA{k i j pr:Nat}(hk:k<10)(hi:i<6)(hj:j<64)(hp:pr<64):(lnT k i j pr).length<=40/\10∉(lnT k i j pr).cps.toList:=by
 obtain⟨_,h2,h3⟩:=nQ hk hi hj;obtain⟨⟨n1,_⟩,_,n3⟩:=nR pr hp;refine⟨?_, ?_⟩
 ·rw[aHF,Str.length_append,Str.length_append];have l7:prT.length=7:=by decide+kernel
  omega
 ·unfold lnT;show 10∉(Builtin.Str.glued _ _).cps.toList;rw[StrLaws.glued_eq_join];refine vW (by decide) λp hpm=> ?_
  rcases aW.mp hpm with z|z
  ·exact(tY h2 p z).2
  ·simp only[aG,bD,or_false] at z
   rcases z with rfl|rfl
   ·decide+kernel
   ·simp at n3;simpa using n3.2
noncomputable def szT(p:Int×Int):Str:=yY Str.empty [("bits ":Str),bZ p.1.toNat,(" boxes ":Str),bZ p.2.toNat]
theorem uB:∀p∈sizes14,Txt.split (szT p) spT=[("bits":Str),bZ p.1.toNat,("boxes":Str),bZ p.2.toNat]/\(szT p).length<=40/\(!(szT p).cps.toList.contains 10)=true/\(("bits ":Str)++bZ p.1.toNat++(" boxes ":Str)++bZ p.2.toNat)=szT p:=by decide+kernel
noncomputable def jnQ(q:SQ):Int:=if q.1<6 then q.2.2.1 else q.2.2.2
noncomputable def lnS(s:SK):Str:=lnT s.1.1 s.1.2.1.toNat (jnQ s.1).toNat s.2.toNat
noncomputable def txT(p:Int×Int)(L:List SK):Str:=Txt.join nlT (szT p::L.map lnS)
theorem gK{p:Int×Int}{q:SQ}(h:oE p q):q.1<10/\q.2.1.toNat<6/\(jnQ q).toNat<64/\0<=jnQ q:=by
 obtain⟨h1,h2,h3,h4,h5⟩:=sG p h.sz;have i0:=h.i0;have j0:=h.j0;have n0:=h.n0
 have m64:((2^p.1.toNat:Nat):Int)<=64:=by have:2^p.1.toNat<=2^6:=jD (by decide) (by omega);omega
 refine⟨h.k10,by omega, ?_, ?_⟩
 ·unfold jnQ
  split<;>omega
 ·unfold jnQ
  split<;>omega
theorem aFx{x z:Str}{u:BA}(hg:Gl X x)(hm:X.mg x=some u)(ru:RelV (.str z) u)(hd:(x==("__debug__":Str))=false:=by decide):PEd X sd (.Name x pos) (.val<|.str z):=.mk λσ F H S=>(pG hg hm ru hd).to ⟨F,S,Same.refl _,by simp only[ResOk,Rep]⟩
noncomputable def figT:Str:="0123456789"
theorem pZ{z:Str}{ss:List Str}{j}{p0 apos cpos:Pos}(hz:PEd X sd e (.val (.lst<|ss.map D.str)))(hok:JoinOk z ss=true)
  (hfew:((AX cpos (AB [e] X.env)).all (fun x=> !x.1) && (backToKw cpos (keywordEach [] X.env)).all (fun x=>x.1.isSome)
  &&decide ([e].length+([]:List Keyword).length+(if([]:List Keyword).isEmpty then 0 else 1)<30))=true:=by rfl)
  (hline:(apos.endLine==cpos.line)=true:=by rfl) (hs:AB [e] X.env=(false,eval e X.env)::AB [] X.env:=by rfl) (hplain:(AX cpos<|AB [] X.env).any (·.1)=false:=by rfl):
  PEd X sd (.Call (.Attribute (.Constant (.str z) j p0) "join" apos) [e] [] cpos) (.val (.str<|Txt.join z ss)):=
 aIn bO hz hok hs (uR fP zV zW aCR dH (eF dH pa_nil hs) (by rfl) hfew hline hs hplain)
mutual
noncomputable def atB:D->Bool
 |.non=>true
 |.bl _=>true
 |.int i=>decide (0<=i)&&decide (i<64)
 |.str x=>decide<|(reprText x).length<=20
 |.tup ds=>atL ds
 |.lst ds=>atL ds
 |.dic=>false
 |.dki _ _=>false
 |.any _=>false
 |.scr _=>false
noncomputable def atL:List D->Bool
 |[]=>true
 |d::ds=>atB d&&atL ds
end
mutual
noncomputable def wgt:D->Nat
 |.tup ds=>aMR ds+5
 |.lst ds=>aMR ds+5
 |_=>20
noncomputable def aMR:List D->Nat
 |[]=>0
 |d::ds=>wgt d+2+aMR ds
end
def aKb:V->List V->Hp->VK->Prop:=λx vs H Q=>∃l xs y,∃ (z:Int) (k:Nat),x=.ref l/\vs=[.int z,y]/\z.toNat=k/\0<=z/\k<=xs.length/\xs.length<=10000/\H l=some (.lst xs)/\Q .non (upd H l<|.lst (xs.take k++y::xs.drop k))
theorem aAl{y:V}{u:BA}(ry:RelV y u):∀ {xs:List V}{its:List BA} (k:Nat),Vals xs its->Vals (xs.take k++y::xs.drop k) (its.take k++u::its.drop k)
 |_,_,0,h=>by rw[kG,kG,dM,dM];exact .cons ry h
 |_,_,k+1,.nil=>.cons ry .nil
 |_,_,k+1,.cons r h=>.cons r<|aAl ry k h
theorem aIG:MtM X "list.insert" aKb:=by
 intro pins s σ H x vs v us Q I rx rv h;obtain⟨l,xs,y,x,k,rfl,rfl,hxk,hx0,hk,h1000,hH,q⟩:=h;cases rx;cases rv with
 |cons r0 rv=>
  obtain⟨u,rfl,ru⟩:=Vals.one (show Vals [y] _ from rv);obtain⟨t,rfl⟩:=r0;obtain⟨z,its,n,r,hl,e⟩:=I.lstM hH;have ln:=r.length;have s1:=fQ (show its.length<=10000 by omega)
  have fit:¬ (!Builtin.List.listFitsIndex x)=true:=by
   unfold Builtin.List.listFitsIndex;have h1: -(2^63:Int)<=x:=by omega
   have h2:x<2^63:=by omega
   rw[decide_eq_true h1,decide_eq_true h2];decide
  have hz:its.toArray.size<=AH:=by rw[aI];exact dW s1
  have M:=PySem.AutoSeq1.list_insert_list_int_val_1 l its.toArray n x t u fit hz;refine Ar F.slot_list_insert ⟨_,e,rfl⟩ F.entry_list_insert (F.args_list_insert_3 _ _ _) M ⟨e, ?_⟩;refine⟨.non,_,I.lset (its':=its.take k++u::its.drop k) hH e ?_ (aAl ru k r) ?_,rfl,q⟩
  ·have hn:¬ (x<0):=by omega
   have hm:min x.toNat its.toArray.size=k:=by rw[aI];omega
   simp only[if_neg hn,hm];apply fH.mp;simp;exact eR (by rw[iT];exact aO _)
  ·rw[aU,bM,eC,iT];omega
theorem RepL.ins{K:aA}{F:Hp}{d:D}{v:V}(r:Rep K F d v):∀ {ds:List D}{xs:List V} (k:Nat),RepL K F ds xs->RepL K F (ds.take k++d::ds.drop k) (xs.take k++v::xs.drop k)
 |ds,xs,0,h=>by rw[kG,kG,dM,dM];exact .cons r h
 |[],xs,k+1,h=>by simp only[RepL] at h;subst h;exact .cons r .nil
 |d'::ds,xs,k+1,h=>by obtain⟨x,xs',rfl,a1,r1⟩:=h.uncons;exact .cons a1<|RepL.ins r k r1
theorem aAC(i k:Nat){x:Str}{p ap cp:Pos}{l:BC}(hs:sd[i]? =some (.own l ds))(hb:PEd X sd b (.val<|.int (k:Int)))(h:PEd X sd e (.val d))(hk:k<=ds.length)(hl:ds.length<=10000)(hE:E.nx (sd.set i<|.own l (ds.take k++d::ds.drop k)))
  (hm:PE X (.Call (.Attribute (.Name x p) "insert" ap) [b,e] [] cp) (tBM X.K "list" aKb (mU i) (sB (wE X b)<|sB (wE X e) aHw)):=by exact uR lM PySem.F.slot_list_insert PySem.F.type_list_insert aIG (pv _) (eF dH<|eF dH pa_nil))
  (hsw:Ad (.Call (.Attribute (.Name x p) "insert" ap) [b,e] [] cp) none pos.line X.env=pure false:=by rfl):
  PSd1 X sd (.Expr (.Call (.Attribute (.Name x p) "insert" ap) [b,e] [] cp) pos) E:=.mk λσ F H S=>
 (qY hm hsw).to (by
  obtain⟨o,h1,h2,n,xs,q,rl⟩:=S.slots.get hs;refine⟨.ref l,by rw[h1,h2],.inl ⟨rfl,xs,.of q⟩,(hb σ F H S).imp λv0 H0 ⟨F0,S0,s0,q0⟩=>(h σ F0 H0 S0).imp λv H1 ⟨F1,S1,s1,q1⟩=> ?_⟩;obtain⟨o',h1',h2',n',xs',q',rl'⟩:=S1.slots.get hs;simp only[ResOk,Rep] at q0;subst q0;have ln:=rl'.len
  exact⟨l,xs',v,(k:Int),k,rfl,rfl,by omega,by omega,by omega,by omega,q',_,F1,S1.wr hs (RepL.ins q1 k rl'),s0.trans s1,hE⟩)
theorem aBg(n:Nat):nB n none none (some (-1))=(cI n).reverse:=by
 have e:nB n none none (some (-1))=(cI n).map λk=>n-1-k:=by
  unfold nB sliceRange;simp only[Aa]
  by_cases h:n=0
  ·subst h;rfl
  ·have hp:¬ ((some (-1:Int)).getD 1>0):=by decide
   simp only[if_neg hp];have e1:(some (-1:Int)).getD 1= -1:=rfl;rw[e1,if_pos (show(n:Int)-1> -1 by omega),show(-(-1):Int)=1 from rfl,Int.ediv_one,show(((n:Int)-1 - -1 - -1-1)).toNat=n by omega];refine jP λk hk=> ?_
   have:=cE.mp hk;omega
 rw[e];refine aJu (by simp) λi h1 h2=> ?_
 rw[List.getElem_map,aGi,List.getElem_reverse,aGi,iL]
theorem aEo{α:Type}(l:List α):jO l none none (some (-1))=l.reverse:=by
 unfold jO;rw[aBg,List.filterMap_reverse];congr 1
 have g:∀n,n<=l.length->(cI n).filterMap (l[·]?)=l.take n:=λn=>by
  induction n with
  |zero=>exact λ_=>rfl
  |succ n ih=>intro h;rw[aJI,List.filterMap_append,ih<|by omega,iK,bN<|by omega];simp[show n<l.length from h]
 rw[g _<|aO _,mI]
set_option maxHeartbeats 2000000 in
theorem aDY(n:Nat)(hn:n<100)(x:Str)(hx:x=bZ n)(u:Tok):Meets (Builtin.«int.__new__» ⟨[.type "int",.str x u],[]⟩) (Made.int n).spec:=
 Meets.of_wp λprog w A R s hs=>by
  obtain⟨hp,g,d,tk,os⟩:=s;have f1:=PySem.F.conv_sub_int;have f2:=PySem.F.madeHere_int;have hT:(⟨hp,g,d,tk,os⟩:BB).TypeIs (.str x u) "str":=rfl;have f3:=lkT1;have f4:=lkT2;have f5:=lkT3
  repeat (any_goals (first|assumption|wp_step))
  have tr:∀ {m m':Sem BA}{Q:BA->BB->Prop}{E:BA->BB->Prop}{s:BB},m=m'->AE (AF prog w) A.in1 m' Q E s->AE (AF prog w) A.in1 m Q E s:=λe h=>e▸h
  subst hx;refine tr (m':=mkInt n) ?_ (wpAny_mkInt<|AC ⟨_,rfl,hs⟩)
  match n,hn with
  |0,_=>kernel_rfl
  |1,_=>kernel_rfl
  |2,_=>kernel_rfl
  |3,_=>kernel_rfl
  |4,_=>kernel_rfl
  |5,_=>kernel_rfl
  |6,_=>kernel_rfl
  |7,_=>kernel_rfl
  |8,_=>kernel_rfl
  |9,_=>kernel_rfl
  |10,_=>kernel_rfl
  |11,_=>kernel_rfl
  |12,_=>kernel_rfl
  |13,_=>kernel_rfl
  |14,_=>kernel_rfl
  |15,_=>kernel_rfl
  |16,_=>kernel_rfl
  |17,_=>kernel_rfl
  |18,_=>kernel_rfl
  |19,_=>kernel_rfl
  |20,_=>kernel_rfl
  |21,_=>kernel_rfl
  |22,_=>kernel_rfl
  |23,_=>kernel_rfl
  |24,_=>kernel_rfl
  |25,_=>kernel_rfl
  |26,_=>kernel_rfl
  |27,_=>kernel_rfl
  |28,_=>kernel_rfl
  |29,_=>kernel_rfl
  |30,_=>kernel_rfl
  |31,_=>kernel_rfl
  |32,_=>kernel_rfl
  |33,_=>kernel_rfl
  |34,_=>kernel_rfl
  |35,_=>kernel_rfl
  |36,_=>kernel_rfl
  |37,_=>kernel_rfl
  |38,_=>kernel_rfl
  |39,_=>kernel_rfl
  |40,_=>kernel_rfl
  |41,_=>kernel_rfl
  |42,_=>kernel_rfl
  |43,_=>kernel_rfl
  |44,_=>kernel_rfl
  |45,_=>kernel_rfl
  |46,_=>kernel_rfl
  |47,_=>kernel_rfl
  |48,_=>kernel_rfl
  |49,_=>kernel_rfl
  |50,_=>kernel_rfl
  |51,_=>kernel_rfl
  |52,_=>kernel_rfl
  |53,_=>kernel_rfl
  |54,_=>kernel_rfl
  |55,_=>kernel_rfl
  |56,_=>kernel_rfl
  |57,_=>kernel_rfl
  |58,_=>kernel_rfl
  |59,_=>kernel_rfl
  |60,_=>kernel_rfl
  |61,_=>kernel_rfl
  |62,_=>kernel_rfl
  |63,_=>kernel_rfl
  |64,_=>kernel_rfl
  |65,_=>kernel_rfl
  |66,_=>kernel_rfl
  |67,_=>kernel_rfl
  |68,_=>kernel_rfl
  |69,_=>kernel_rfl
  |70,_=>kernel_rfl
  |71,_=>kernel_rfl
  |72,_=>kernel_rfl
  |73,_=>kernel_rfl
  |74,_=>kernel_rfl
  |75,_=>kernel_rfl
  |76,_=>kernel_rfl
  |77,_=>kernel_rfl
  |78,_=>kernel_rfl
  |79,_=>kernel_rfl
  |80,_=>kernel_rfl
  |81,_=>kernel_rfl
  |82,_=>kernel_rfl
  |83,_=>kernel_rfl
  |84,_=>kernel_rfl
  |85,_=>kernel_rfl
  |86,_=>kernel_rfl
  |87,_=>kernel_rfl
  |88,_=>kernel_rfl
  |89,_=>kernel_rfl
  |90,_=>kernel_rfl
  |91,_=>kernel_rfl
  |92,_=>kernel_rfl
  |93,_=>kernel_rfl
  |94,_=>kernel_rfl
  |95,_=>kernel_rfl
  |96,_=>kernel_rfl
  |97,_=>kernel_rfl
  |98,_=>kernel_rfl
  |99,_=>kernel_rfl
  |n+100,h=>omega
theorem tS:jK X (.type "int") (λxs H Q=>∃n,xs=[.str<|bZ n]/\n<100/\Q (.int (n:Int)) H):=by intro pins s σ H xs us Q I r h;obtain⟨n,rfl,hn,q⟩:=h;obtain⟨u,rfl,t,rfl⟩:=mG r;exact call_int_1 (aDY n hn _ rfl t) (show(Made.int n).post _ s from⟨rfl,.int (n:Int),H,I.tok _,⟨_,rfl⟩,q⟩)
theorem aCM{n:Nat}{p:Pos}(hg:Gl X "int")(hm:X.mg "int"=none)(h:PEd X sd e (.val (.str<|bZ n)))(hn:n<100)(hst:AB [e] X.env=(false,eval e X.env)::AB [] X.env:=by rfl):PEd X sd (.Call (.Name "int" p) [e] [] pos) (.val<|.int (n:Int)):=
 nJ (he:=hst) tS hg hm PyProof.Rows.boot_int (aB h aN trivial hst) λσ F H vs Q S q k=>by
  cases q with
  |cons q1 q2=>cases q2;simp only[ResOk,Rep] at q1;exact⟨n,by rw[q1],hn,k _ F H S (Same.refl _)<|by simp only[ResOk,Rep]⟩
theorem aCF{v:BA}{o:Option Int}(h:IsPart v o):∃l:Option (Int×Tok),v=partValue l/\l.map (·.1)=o:=by
 cases h with
 |none=>exact⟨none,rfl,rfl⟩
 |int i t=>exact⟨some (i,t),rfl,rfl⟩
theorem aLs:SlR X (λx lo hi H Q=>∃z,x=.str z/\z.length<=100000/\Q (.str<|Txt.slice z lo hi) H):=by intro pins s σ H x v vl vu lo hi sl Q I rx hs pl pu h;obtain⟨z,rfl,hz,q⟩:=h;obtain⟨t,rfl⟩:=rx;obtain⟨l,rfl,rfl⟩:=aCF pl;obtain⟨u,rfl,rfl⟩:=aCF pu;refine⟨"str",_,PySem.F.slot_str_getitem.lookup,Aq _ _ _,wpAny_getItem_str_slice (l:=l) (u:=u) (st:=none) hs rfl ?_⟩;exact post_val_or_str ⟨aQ (Txt.slice_le z _ _) (by rw[AM];omega),λt' k=>⟨.str (Txt.slice z (l.map (·.1)) (u.map (·.1))),H,I.tok _,⟨_,rfl⟩,q⟩⟩
theorem rT{z:Str}{lo hi:Option Expr}{ol oh:Option Int}{p2:Pos}(ha:PEd X sd a (.val<|.str z))(hl:POd X sd lo ol)(hh:POd X sd hi oh)(hz:z.length<=100000):PEd X sd (.Subscript a (.Slice lo hi none p2) pos) (.val (.str<|Txt.slice z ol oh)):=.mk λσ F H S=>by obtain⟨tl,pl,kl⟩:=mD hl;obtain⟨th,ph,kh⟩:=mD hh;refine(aAM aLs dH pl ph).to<|(ha σ F H S).imp λv H1 ⟨F1,S1,s1,q1⟩=>kl σ F1 H1 S1 _ λF2 H2 S2 s2=>kh σ F2 H2 S2 _ λF3 H3 S3 s3=> ?_;simp only[ResOk,Rep] at q1;exact⟨z,q1,hz,F3,S3,(s1.trans s2).trans s3,by simp only[ResOk,Rep]⟩
def aKi:V->List V->Hp->VK->Prop:=λx vs H Q=>∃l xs y,∃ (z:Int) (k:Nat),x=.ref l/\vs=[.int z]/\z=(k:Int)/\xs[k]? =some y/\xs.length<=10000/\H l=some (.lst xs)/\Q y (upd H l (.lst<|xs.eraseIdx k))
theorem aAY:∀ {xs:List V}{its:List BA} (k:Nat),Vals xs its->Vals (xs.eraseIdx k) (its.eraseIdx k)
 |_,_,_,.nil=>.nil
 |_,_,0,.cons r h=>h
 |_,_,k+1,.cons r h=>.cons r<|aAY k h
theorem aCA:∀ {xs:List V}{its:List BA}{k:Nat}{y:V},Vals xs its->xs[k]? =some y->∃u,its[k]? =some u/\RelV y u
 |_,_,_,_,.nil,h=>by simp at h
 |_,_,0,_,.cons r h,e=>⟨_,rfl,by cases e;exact r⟩
 |_,_,k+1,_,.cons r h,e=>aCA (k:=k) h (by simpa using e)
theorem aJa:MtM X "list.pop" aKi:=by
 intro pins s σ H x vs v us Q I rx rv h;obtain⟨l,xs,y,x,k,rfl,rfl,hxk,hy,h1000,hH,q⟩:=h;cases rx;obtain⟨u,rfl,t,rfl⟩:=mG rv;obtain⟨z,its,n,r,hl,e⟩:=I.lstM hH;have ln:=r.length;have s1:=fQ (show its.length<=10000 by omega);obtain⟨uy,hu,ry⟩:=aCA r hy;have kl:k<its.length:=(bF.mp hu).1
 have fit:Builtin.List.listFitsIndex x=true:=by
  unfold Builtin.List.listFitsIndex;have h1: -(2^63:Int)<=x:=by omega
  have h2:x<2^63:=by omega
  rw[decide_eq_true h1,decide_eq_true h2];decide
 have hz:its.toArray.size<=AH:=by rw[aI];exact dW s1
 have hk:seqIndex? x its.toArray.size=some k:=by rw[aI,hxk];unfold seqIndex?;simp;omega
 have M:=PySem.MeetsSeq.list_pop_at l its.toArray n x t k uy fit hk (by simpa using hu) hz;refine Ar zX ⟨_,e,rfl⟩ PySem.F.entry_list_pop (PySem.F.args_list_pop_2 _ _) M ⟨e, ?_⟩;refine⟨y,_,I.lset (its':=its.eraseIdx k) hH e ?_ (aAY k r) ?_,ry,q⟩
 ·simp[Array.eraseIdxIfInBounds,kl]
 ·have:=List.length_eraseIdx_le xs k;omega
theorem RepL.era{K:aA}{F:Hp}:∀ {ds:List D}{xs:List V} (k:Nat),RepL K F ds xs->RepL K F (ds.eraseIdx k) (xs.eraseIdx k)
 |[],xs,k,h=>by simp only[RepL] at h;subst h;exact .nil
 |d'::ds,xs,0,h=>by obtain⟨x,xs',rfl,a1,r1⟩:=h.uncons;exact r1
 |d'::ds,xs,k+1,h=>by obtain⟨x,xs',rfl,a1,r1⟩:=h.uncons;exact .cons a1<|RepL.era k r1
theorem aGf(i k:Nat){x:Str}{p ap cp:Pos}{l:BC}(hs:sd[i]? =some (.own l ds))(hb:PEd X sd b (.val<|.int (k:Int)))(hk:k<ds.length)(hl:ds.length<=10000)(hE:E.nx (sd.set i (.own l<|ds.eraseIdx k)))
  (hm:PE X (.Call (.Attribute (.Name x p) "pop" ap) [b] [] cp) (tBM X.K "list" aKi (mU i)<|sB (wE X b) aHw):=by exact uR lM zX PySem.F.type_list_pop aJa (pv _) (eF dH pa_nil))
  (hsw:Ad (.Call (.Attribute (.Name x p) "pop" ap) [b] [] cp) none pos.line X.env=pure false:=by rfl):
  PSd1 X sd (.Expr (.Call (.Attribute (.Name x p) "pop" ap) [b] [] cp) pos) E:=.mk λσ F H S=>
 (qY hm hsw).to (by
  obtain⟨o,h1,h2,n,xs,q,rl⟩:=S.slots.get hs;refine⟨.ref l,by rw[h1,h2],.inl ⟨rfl,xs,.of q⟩,(hb σ F H S).imp λv0 H0 ⟨F0,S0,s0,q0⟩=> ?_⟩;obtain⟨o',h1',h2',n',xs',q',rl'⟩:=S0.slots.get hs;simp only[ResOk,Rep] at q0;subst q0;have ln:=rl'.len;obtain⟨y,hy⟩:∃y,xs'[k]? =some y:=⟨_,bN<|by omega⟩
  exact⟨l,xs',y,(k:Int),k,rfl,rfl,rfl,hy,by omega,q',_,F0,S0.wr hs (RepL.era k rl'),s0,hE⟩)
def dkG(kvs:List (Key×V)):V->Hp->Prop:=λv H=>∃a,v=.ref a/\H a=some (.dK kvs)
theorem aFh{keys:List (Option Expr)}{values:List Expr}{trs:List (TE×TE)}{kvs:List (Key×V)}(h:PPs X pos keys values trs)(hc:∀ (σ:St) (H:Hp) (Q:List (V×V)->Hp->Prop),Q (kvs.map λkv=>(kV kv.1,kv.2)) H->yR trs σ H Q)
  (hall:keys.all (·.isSome)=true:=by rfl) (hl:keys.length=values.length:=by rfl) (h0:keys≠[]:=by simp) (h15:keys.length<=15:=by decide) (lk:kvs.length<=15:=by decide):PEd X sd (.Dict keys values pos) (.val<|.any (dkG<|mY [] kvs)):=.mk λσ F H S=>
 (aIx h hall hl h0 h15).to λp hp=>by refine hc σ _ _ ⟨bR,kvs,rfl,lk, ?_⟩;rw[aHZ];obtain⟨S1,s1⟩:=S.lay (o:=.dK<|mY [] kvs) hp trivial;refine⟨_,S1,s1, ?_⟩;simp only[ResOk,Rep];exact⟨⟨p,rfl⟩,λH' s=>⟨p,rfl,s _ _ bR⟩⟩
theorem yH{kvs:List (Key×V)}{k:Str}{i j:Int}{apos cpos:Pos}(hu:X.A.units+1<AN)(ha:PEd X sd a (.val (.any<|dkG kvs)))(hb:PEd X sd b (.val<|.str k))(hc:PEd X sd c (.val<|.int j))(hv:(mM kvs<|.inr k).getD (.int j)=.int i)(m:M2 X a "get" apos b c cpos:=by exact⟨rfl,rfl,rfl,rfl⟩):
  PEd X sd (.Call (.Attribute a "get" apos) [b,c] [] cpos) (.val<|.int i):=.mk λσ F H S=>
 (aFd hu dH dH dH m).to ((ha σ F H S).imp fun v H1 ⟨F1,S1,s1,q1⟩=>by
  simp only[ResOk,Rep] at q1;obtain⟨_,q1⟩:=q1;obtain⟨p,rfl,hp⟩:=q1 F1<|Same.refl _;refine⟨p,rfl,.inl ⟨kvs,.inl<|S1.sub _ _ hp⟩,(hb σ F1 H1 S1).imp λy H2 ⟨F2,S2,s2,q2⟩=>(hc σ F2 H2 S2).imp λz H3 ⟨F3,S3,s3,q3⟩=> ?_⟩;simp only[ResOk,Rep] at q2 q3;subst q2 q3;have hp3:H3 p=some (.dK kvs):=S3.sub _ _ (s3 _ _<|s2 _ _ hp);refine⟨_,DGet.k (k:=(.inr k:Key)) hp3,F3,S3,(s1.trans s2).trans s3, ?_⟩;rw[hv]
  simp only[ResOk,Rep])
variable {pins:List (BC×BF)}{σ:St}{F H:Hp}{s:BB}{a T:BC}{fn:Str}{C:BC}{i:Int}{E:XK}
theorem aHV{Ex:BA->BB->Prop}(hex:X.ex=[])(hst:X.stack=X.env::X.outer/\X.env.frame=some X.env.locals)(h:aHt X pins σ H s a T (.ref C) .none)(dk:DkI fn i s.heap H a)(hE:E (.ref a) (some a) H):
  AE (AF X.prog X.w) X.A (leaving X.env<|.ref a) (λ_ s''=>CX2 X.prog X.w fn C i X.outer X.H₀ X.s₀ E (.ref a) s'') Ex s:=by
 unfold leaving;refine AA<|uG hst h.inv.ok.frames hex h dk λh' T' h2 dk2=> ?_;refine lR (fr:=none) h2 dk2 λh'' h3 dk3=> ?_
 have I:=h3.inv;have b:=I.base;rw[hex] at b;exact⟨a,T',H,rfl,I.os,I.bare,b,I.hok,⟨h3.fa.1,h3.fa.2.1,h3.fT.1,h3.fT.2.1,h3.obj⟩,hE,dk3⟩
variable {P:AD}{w:AG}{K:aA}{mg:Str->Option BA}{base:BE}{x qual:Str}{st:BG}{f:BC}{fd:AJ}{N ps:List Str}{k:Nat}
theorem aBt{scope:Scope}{cdv:BA}{A:BD}{outer:List Env}(hE:∀a H',Same H H'->Smp H'->E (.ref a) (some a) H'):yT (jQ (CX2 P w fn C i) P w K mg base N qual scope f cdv A outer s H E) fn C i sd:=λpins σ F H' s' a T I S x dk hp=>aHV (X:=jQ (CX2 P w fn C i) P w K mg base N qual scope f cdv A outer s H E) (E:=E) rfl ⟨rfl,rfl⟩ ⟨I,⟨x.free,x.new,λp hp'=>(hp p hp').1⟩,⟨x.freeT,x.newT,λp hp'=>(hp p hp').2⟩,x.obj⟩ dk<|hE a H' (λb o e=>S.sub _ _<|S.base _ _ e) S.smp
theorem aCJ{Q:Int->List D->Prop}(F:Fun K x qual st f fd)(S:jC N ps (bE st))(hm:mg x=some (.ref f))
  (hb:∀ (kV doc pm:BA) (an:Option BC) (cdv ct:BA) (us:List BA),us.length=ps.length->bindArgs (cU x qual (fK st) (dG st) (bE st) .none kV doc pm an cdv ct) ⟨us,[]⟩=pure (ps.zip us))
  (body:∀ (i:Int) (cdv:BA) (A:BD) (outer:List Env) (s:BB) (H:Hp) (E:XK),Room k (A.deeper (Ak qual (bE st) s.heap.objs.size f cdv))→(∀a H',Same H H'→Smp H'→E (.ref a) (some a) H')→∀ds,ds.length=ps.length→Q i ds→
   PSd (jQ (CX2 P w fn C i) P w K mg base N qual (bE st) f cdv A outer s H E) (init N.length ds) (dG st) {nx:=λ_=>False,rt:=λ_=>False}):jX P w K mg base x (k+1) ps.length Q fn C:=by
 obtain⟨oc,od,kV,doc,pm,an,cdv,ct,osl,e1,lk,hcd⟩:=F.ex;subst e1;refine⟨f,cU x qual (fK st) (dG st) (bE st) .none kV doc pm an cdv ct,ps,hm,F.kp,F.binds hb,λi=> ?_⟩;refine aKh lk hcd S (λvs H Q E h=>h.1) λA outer s H vs Q E hr h=> ?_
 obtain⟨hl,sm,ds,rl,c,q⟩:=h;have hds:ds.length=ps.length:=by rw[<-rl.len];exact hl
 refine⟨_,sC, ?_⟩;have hlen:N.length-vs.length=N.length-ds.length:=by rw[rl.len]
 have S0:StF K H H H (L2.start N vs) (init N.length ds):=by
  refine⟨Same.refl _,Same.refl _,sm, ?_, ?_⟩
  ·unfold L2.start init;rw[hlen];exact lQ (m:=0) rl
  ·unfold init;rw[lU];exact fA
 exact(body i cdv A outer s H E hr q ds hds c (L2.start N vs) H H S0).imp (λ_ _ ⟨_,_,_,_,z⟩=>z.elim) (λ_ _ ⟨_,_,z⟩=>z.elim) (λ_ _ ⟨_,_,_,_,z⟩=>z.elim) λ_ _ ⟨_,_,_,_,z⟩=>z.elim
open Builtin Builtin.Str in
theorem aEm(x y z:Str)(t u v q:Tok):Builtin.«str.replace» ⟨[.str x t,.str y u,.str z v,.int 1 q],[]⟩=
  (if ((occurrences x y 0 x.length 1).isEmpty || (y.length==0 && z.length==0))=true then (do rule "str.replace.nothing"; ret (.str x t)) else
   (do let same ← isSame (.str y u) (.str z v);     if same=true then(do rule "str.replace.old-is-new";ret (.str x t)) else if tooLong (x.length+(occurrences x y 0 x.length 1).length*z.length)=true then unsupported "str.replace:memory" else retStr (glued z (partsBetween x (occurrences x y 0 x.length 1) y.length)))):=by
 first|rfl|kernel_rfl
open Builtin Builtin.Str in
noncomputable def yS(x y z:Str):Str:=if((occurrences x y 0 x.length 1).isEmpty||(y.length==0&&z.length==0))=true then x else glued z (partsBetween x (occurrences x y 0 x.length 1) y.length)
open Builtin Builtin.Str in
theorem aBj(x y z:Str)(t u v q:Tok)(h0:(u==0||v==0)=false)(huv:(u==v)=false)(hyz:(y==z)=false)(hl:tooLong (x.length+(occurrences x y 0 x.length 1).length*z.length)=false):
  Gives (Builtin.«str.replace» ⟨[.str x t,.str y u,.str z v,.int 1 q],[]⟩) (if((occurrences x y 0 x.length 1).isEmpty||(y.length==0&&z.length==0))=true then .val (.str x t) else .str (glued z<|partsBetween x (occurrences x y 0 x.length 1) y.length)):=by
 rw[aEm];cases hc:((occurrences x y 0 x.length 1).isEmpty||(y.length==0&&z.length==0))
 ·rw[isSame_str_other y z u v h0 huv hyz,hl];exact .of_eq rfl
 ·exact .rule<|.of_eq rfl
section
variable {prog:AD}{w:AG}{A:BD}{E:BA->BB->Prop}{s:BB}{x y z:Str}{t u v q:Tok}{Q:BA->BB->Prop}
open Builtin Builtin.Str in
theorem aIT(h0:(u==0||v==0)=false)(huv:(u==v)=false)(hyz:(y==z)=false)(hx:x.length<=100000)(hz:z.length<=10)(hr:(yS x y z).length<=200000)(hq:∀t' k,Q (.str (yS x y z) t') {s with toks:=k}):
  AE (AF prog w) A (call (.builtin "str.replace") [.str x t,.str y u,.str z v,.int 1 q]) Q E s:=by
 have hl:tooLong (x.length+(Builtin.Str.occurrences x y 0 x.length 1).length*z.length)=false:=by have h1:=StrLaws.occ_length_le x y 0 x.length 1;have h2:(Builtin.Str.occurrences x y 0 x.length 1).length*z.length<=1*10:=iR h1 hz;unfold tooLong;rw[AM];exact decide_eq_false<|by omega
 refine call_gives vU (Aq _ _ _) PySem.F.entry_str_replace (PySem.F.args_str_replace_4 _ _ _ _) (aBj x y z t u v q h0 huv hyz hl) ?_;exact post_val_or_str ⟨by rw[AM];exact aQ hr<|by decide,hq⟩
end
variable {f a:Expr}{r1 r2:R}{rs:List R}
structure PEt(X:Cx)(sd:List Slot)(e:Expr)(r:R):Prop where
 run:∀ (σ:St) (F H:Hp),StF X.K X.B₀ F H σ sd->∀ (pins:List (BC×BF)) (s:BB),Inv X pins σ H s->AE (AF X.prog X.w) X.A (eval e X.env) (λu s'=>s'.toks≠0/\EP X pins σ (λv H'=>∃F',StF X.K X.B₀ F' H' σ sd/\Same F F'/\ResOk X.K F' H' sd r v) u s') X.xe s
structure PEu(X:Cx)(sd:List Slot)(e:Expr)(r:R):Prop where
 run:∀ (σ:St) (F H:Hp),StF X.K X.B₀ F H σ sd->∀ (pins:List (BC×BF)) (s:BB),s.toks≠0->Inv X pins σ H s->AE (AF X.prog X.w) X.A (eval e X.env) (EP X pins σ λv H'=>∃F',StF X.K X.B₀ F' H' σ sd/\Same F F'/\ResOk X.K F' H' sd r v) X.xe s
theorem aLy(h1:PEt X sd e r1)(h2:PEu X sd f r2)(h3:PAd X sd es rs)(k1:r1.keeps:=by trivial)(k2:r2.keeps:=by trivial)(hs:AB (e::f::es) X.env=(false,eval e X.env)::(false,eval f X.env)::AB es X.env:=by rfl):PAd X sd (e::f::es) (r1::r2::rs):=.mk λσ F H S pos pins s I=>by rw[hs];show AE _ _ (spliced ((false,eval e X.env)::(false,eval f X.env)::AX pos (AB es X.env))) _ _ s;refine Calls.spliced_cons<|thn (h1.run σ F H S pins s I) λu s1 ⟨tk,x,H1,I1,x1,F1,S1,s1',q1⟩=> ?_;refine Calls.spliced_cons<|thn (h2.run σ F1 H1 S1 pins s1 tk I1) λu2 s2 ⟨y,H2,I2,y1,F2,S2,s2',q2⟩=> ?_;exact thn (h3 σ F2 H2 S2 pos pins s2 I2) λus s3 ⟨xs,H3,I3,r3,F3,S3,s3',q3⟩=>⟨x::y::xs,H3,I3,.cons x1<|.cons y1 r3,F3,S3,(s1'.trans s2').trans s3',.cons (q1.keep k1 S3<|s2'.trans s3')<|.cons (q2.keep k2 S3 s3') q3⟩
theorem aGd{y:Str}{j:Nat}{p2:Pos}(ha:PEd X sd a (.val (.str x)))(hl:x.length+y.length≤100000):PEt X sd (.BinOp a .Add (.Constant (.str y) j p2) pos) (.val (.str (x++y))):=⟨fun σ F H S pins s I=>by
 refine wpAny_BinOp<|thn (ha σ F H S pins s I) λu s1 ⟨v,H1,I1,rv,F1,S1,s1',q1⟩=>Calls.Constant_str ?_;simp only[ResOk,Rep] at q1;subst q1;obtain⟨t,rfl⟩:=rv
 have fin:∀z t' k,k≠0->z=x++y->({s1 with toks:=k}:BB).toks≠0/\EP X pins σ (λv H'=>∃F',StF X.K X.B₀ F' H' σ sd/\Same F F'/\ResOk X.K F' H' sd (.val (.str<|x++y)) v) (.str z t') {s1 with toks:=k}:=λz t' k hk e=>by subst e;exact⟨hk,.str _,H1,I1.tok _,⟨_,rfl⟩,F1,S1,s1',by simp only[ResOk,Rep]⟩
 refine PySem.P.add_str ?_
 have e0:∀z:Str,(z.length==0)=true->z=Str.empty:=λz h=>by
  have:z.cps.size=0:=by simpa[Str.length] using h
  exact Str.ext' (by simpa[Str.empty] using this)
 by_cases h1:(x.length==0)=true
 ·rw[if_pos h1];exact fin _ _ _ (vD _) (by rw[e0 x h1];exact Str.ext'<|by simp[Str.cps_append,Str.empty])
 ·rw[if_neg h1]
  by_cases h2:(y.length==0)=true
  ·rw[if_pos h2];exact fin _ _ _ (vD _) (by rw[e0 y h2];exact Str.ext'<|by simp[Str.cps_append,Str.empty])
  ·rw[if_neg h2]
   exact⟨by rw[Str.length_append,AM];omega,fin _ _ _ (vD _) rfl⟩⟩
theorem aLR{v:V}{i:Nat}{Q:BA->BB->Prop}(I:Inv X pins σ H s)(hN:X.N[i]? =some x)(hv:Vis X.env.scope x)(e:σ[i]? =some (some v))(hd:(x==("__debug__":Str))=false)(hcd:(x==("__classdict__":Str))=false)(q:∀u,RelV v u->Q u s):AE (AF X.prog X.w) X.A (eval (.Name x pos) X.env) Q X.xe s:=by
 obtain⟨m,hn,hl⟩:=I.loc;obtain⟨u,r,l⟩:=hl i x v hN e hv
 rcases l with⟨hk,hm⟩|⟨hk,c,hc,hcell⟩
 ·exact wpAny_Name (wpAny_loadName_local I.ok.kind hk hn hm<|q u r) hd
 ·rcases hk with hk|hk
  ·exact wpAny_Name (wpAny_loadName_cell I.ok.kind hk hc hcell<|q u r) hd
  ·exact wpAny_Name (wpAny_loadName_free I.ok.kind hk hc hcell (q u r) hcd) hd
theorem aFL(i:Nat){n y z:Str}{j1 j2 j3:Nat}{p p1 p2 p3 apos cpos:Pos}(hs:sd[i]? =some (.val<|.str x))(hyz:(y==z)=false)(hx:x.length<=100000)(hz:z.length<=10)(hr:(yS x y z).length<=200000)(hN:X.N[i]? =some n:=by rfl)(hv:Vis X.env.scope n:=by first|exact Or.inl rfl|exact Or.inr (Or.inl rfl)|exact Or.inr (Or.inr rfl))
  (hd:(n==("__debug__":Str))=false:=by decide) (hcd:(n==("__classdict__":Str))=false:=by decide) (hbase:Ao (.Name n p) "replace" X.env (eval (.Name n p) X.env)=eval (.Name n p) X.env:=by rfl) (hline:(apos.endLine==cpos.line)=true:=by rfl):
  PEu X sd (.Call (.Attribute (.Name n p) "replace" apos) [.Constant (.str y) j1 p1, .Constant (.str z) j2 p2, .Constant (.int 1) j3 p3] [] cpos) (.val (.str (yS x y z))):=⟨fun σ F H S pins s tk I=>by
 obtain⟨o,h1,so⟩:=S.slots.get hs;obtain⟨v,rfl,so⟩:=so;simp only[Rep] at so;subst so;refine wpAny_Call_method_late hbase rfl hline rfl<|aLR I hN hv h1 hd hcd λu ru=> ?_;obtain⟨t,rfl⟩:=ru;refine⟨"str","str.replace",fP,vU,PySem.F.type_str_replace,Aq _ _ _,(λb z=>by cases z), ?_⟩;refine Calls.callWith_builtin rfl (Calls.evalArgs_plain<|Calls.spliced_cons (Calls.Constant_str (k:=j1) (pos:=p1)<|Calls.spliced_cons (Calls.Constant_str (k:=j2) (pos:=p2)<|Calls.spliced_cons (wpAny_Constant_int (k:=j3) (pos:=p3)<|Calls.spliced_nil ?_))));refine aIT ?_ ?_ hyz hx hz hr λt' k=>⟨.str _,H,I.tok _,⟨_,rfl⟩,F,S,Same.refl _,by simp only[ResOk,Rep]⟩
 ·simp[tk]
 ·simp⟩
theorem aEX{y:Str}(ha:PEd X sd a (.val<|.str x))(hb:PEd X sd b (.val<|.str y))(hk:AQ .NotIn b=false:=by with_unfolding_all rfl):PTd X sd (.Compare a [.NotIn] [b] pos) (!(!(Builtin.Str.occurrences y x 0 y.length 1).isEmpty)):=
 fY yB ha hb trivial hk λσ F H v u Q S q1 q2 k=>by simp only[ResOk,Rep] at q1 q2;exact⟨x,y,q1,q2,k F H S<|Same.refl _⟩
theorem aMl{α:Type}{us:List α}{n:Nat}(h:us.length=n+1):∃a r,us=a::r/\r.length=n:=by
 cases us with
 |nil=>cases h
 |cons a r=>exact⟨a,r,rfl,Nat.succ.inj h⟩
theorem aMQ{α:Type}{us:List α}(h:us.length=1):∃a,us=[a]:=by obtain⟨a,r,rfl,h2⟩:=aMl h;exact⟨a,by rw[List.eq_nil_of_length_eq_zero h2]⟩
theorem aNb{α:Type}{us:List α}(h:us.length=2):∃a b,us=[a,b]:=by obtain⟨a,r,rfl,h2⟩:=aMl h;obtain⟨b,rfl⟩:=aMQ h2;exact⟨a,b,rfl⟩
theorem aMK{α:Type}{us:List α}(h:us.length=3):∃a b c,us=[a,b,c]:=by obtain⟨a,r,rfl,h2⟩:=aMl h;obtain⟨b,c,rfl⟩:=aNb h2;exact⟨a,b,c,rfl⟩
theorem aOn{α:Type}{us:List α}(h:us.length=4):∃a b c d,us=[a,b,c,d]:=by obtain⟨a,r,rfl,h2⟩:=aMl h;obtain⟨b,c,d,rfl⟩:=aMK h2;exact⟨a,b,c,d,rfl⟩
theorem aDg{f:BC}{C:List D->R->Prop}(F:Fun K x qual st f fd)(hm:mg x=some (.ref f))
  (body:∀ (cdv:BA) (A:BD) (outer:List Env) (s:BB) (H:Hp) (E:XK),Room k (A.deeper (Ak qual (bE st) s.heap.objs.size f cdv))→∀ds r,ds.length=ps.length→C ds r→
   PSd (jQ CX0 P w K mg base N qual (bE st) f cdv A outer s H E).nox (init N.length ds) (dG st) {nx:=λ_=>r=.val .non,rt:=λr'=>r'=r})
  (S:jC N ps (bE st):=by exact⟨rfl,rfl,rfl,by assumption,rfl,by decide+kernel,by decide+kernel⟩)
  (hb:∀ (kV doc pm:BA) (an:Option BC) (cdv ct:BA) (us:List BA),us.length=ps.length→bindArgs (cU x qual (fK st) (dG st) (bE st) .none kV doc pm an cdv ct) ⟨us,[]⟩=pure (ps.zip us):=by
   intro _ _ _ _ _ _ _ h
   first
   |(obtain⟨_,rfl⟩:=aMQ h;rfl)
   |(obtain⟨_,_,rfl⟩:=aNb h;rfl)
   |(obtain⟨_,_,_,rfl⟩:=aMK h;rfl)
   |(obtain⟨_,_,_,_,rfl⟩:=aOn h;rfl)
   |(obtain⟨_,_,_,_,_,rfl⟩:=len5 h;rfl)
   |(obtain⟨_,_,_,_,_,_,rfl⟩:=len6 h;rfl)):bP P w K mg base x (k+1) ps.length C:=aGJ F S hm hb body
variable {p:Pos}{E:fW}
theorem pdv(i:Nat)(hs:sd[i]? =some (.val d):=by rfl)(h:PE X (.Name x pos) (mU i):=by exact pv _):PEd X sd (.Name x pos) (.val d):=aKt i hs h
theorem fM(i:Nat)(h:PEd X sd e (.val d))(hE:E.nx (sd.set i<|.val d))(hN:X.N.Nodup:=by assumption)(hi:X.N[i]? =some x:=by rfl)(hx:Loc X.env.scope x:=by first|exact Or.inl rfl|exact Or.inr rfl)(hs:Ad e (some<|.Name x p) pos.line X.env=pure false:=by rfl)
  (hf:X.fn x=true\/X.env.scope.names.lookup x=some .local:=by first|exact .inl rfl|exact .inr rfl|assumption):PSd1 X sd (.Assign [.Name x p] e pos) E:=kC i hN hi hx h hE hs hf
theorem pE(i:Nat)(h:PEd X sd e (.own ds))(hE:∀l,E.nx (sd.set i<|.own l ds))(hN:X.N.Nodup:=by assumption)(hi:X.N[i]? =some x:=by rfl)(hx:Loc X.env.scope x:=by first|exact Or.inl rfl|exact Or.inr rfl)(hs:Ad e (some<|.Name x p) pos.line X.env=pure false:=by rfl)
  (hf:X.fn x=true\/X.env.scope.names.lookup x=some .local:=by first|exact .inl rfl|exact .inr rfl|assumption):PSd1 X sd (.Assign [.Name x p] e pos) E:=aBb i hN hi hx h hE hs hf
theorem pgn(i:Nat)(hN:X.N.Nodup:=by assumption)(hi:X.N[i]? =some x:=by rfl)(hx:Loc X.env.scope x:=by first|exact Or.inl rfl|exact Or.inr rfl)(hf:X.fn x=true\/X.env.scope.names.lookup x=some .local:=by first|exact .inl rfl|exact .inr rfl|assumption):PG X (.Name x pos) (aBH i):=aDf hN hi hx hf
noncomputable abbrev tN(l:List Nat):D:=.tup<|aJO l
noncomputable abbrev lK(L:List SK):D:=.lst<|L.map skD
noncomputable abbrev tL(l:List (List Int)):D:=.lst<|l.map aGs
noncomputable abbrev s4(p:Int×Int)(L:List SK)(row:List Nat)(o:Option (List Nat))(r:List Slot):List Slot:=.val (bW p)::.val (lK L)::.val (tN row)::.val (lkD o)::r
noncomputable abbrev a4(p:Int×Int)(L:List SK)(row:List Nat)(o:Option (List Nat)):List D:=[bW p,lK L,tN row,lkD o]
noncomputable abbrev a5(p:Int×Int)(L:List SK)(row:List Nat)(o:Option (List Nat))(w:Nat):List D:=[bW p,lK L,tN row,lkD o,.int (w:Int)]
noncomputable abbrev rtE(r:R):fW:={nx:=λ_=>r=.val .non,rt:=λr'=>r'=r}
theorem uN{A:BD}(r:Room k A)(n:Nat)(h:n<=8:=by decide):A.units+n<AN:=by have:=r.un;omega
noncomputable def NB:R->Prop
 |.bor _=>False
 |_=>True
theorem kW(h:PEd X sd e r)(hE:E.rt r:=by rfl)(hr:NB r:=by trivial):PSd1 X sd (.Return (some e) pos) E:=bY h (by cases r<;>first|trivial|exact hr) hE
theorem aHv{x:List BG}(h:PTd X sd c false)(k:PSd X sd rest E):PSd X sd (.If c x [] pos::rest) E:=aE (lW h rfl<|cN k)
theorem pdc{n:Nat}{C:List D->R->Prop}(G:bP X.prog X.w X.K X.mg X.base x k n C){j:Nat}(hr:Room j X.A)(ha:PAd X sd (e::es) (ds.map R.val))(hc:C ds r)(hj:k<=j:=by decide)(hg:Gl X x:=by rfl)(hb:NB r:=by trivial)(hn:ds.length=n:=by rfl)
  (hdb:(x==("__debug__":Str))=false:=by decide) (he:AB (e::es) X.env=(false,eval e X.env)::AB es X.env:=by rfl) (hpl:(AX pos<|AB es X.env).any (·.1)=false:=by rfl):
  PEd X sd (.Call (.Name x p) (e::es) [] pos) r:=aDC G (hr.mono hj) hg ha hc (by cases r<;>first|trivial|exact hb) hn hdb he hpl
theorem pdx{n j:Nat}{p1:Pos}(ha:PEd X sd a (.val<|.tup ds))(hd:ds[n]? =some d:=by rfl):PEd X sd (.Subscript a (.Constant (.int (n:Int)) j p1) pos) (.val d):=aMb ha aP hd λ_ _=>rfl
theorem pdT{x1}(h:PAd X sd es (ds.map R.val))(hl:ds.length<=10000:=by exact cG rfl):PEd X sd (.Tuple es x1 pos) (.val<|.tup ds):=aGz h hl
theorem pdL(h:PAd X sd es (ds.map R.val))(hl:ds.length<=10000:=by exact cG rfl):PEd X sd (.List es pos) (.own ds):=kM h hl
theorem pgN(i:Nat)(hN:X.N.Nodup:=by assumption)(hi:X.N[i]? =some x:=by rfl)(hx:Loc X.env.scope x:=by first|exact Or.inl rfl|exact Or.inr rfl)(hf:X.fn x=true\/X.env.scope.names.lookup x=some .local:=by first|exact .inl rfl|exact .inr rfl|assumption):PGd X sd (.Name x pos) d (sd.set i<|.val d):=aFc i<|aDf hN hi hx hf
theorem pdC{elt:Expr}{ifs:List Expr}{scope:Scope}{M:List Str}{cap:List (Option Nat)}{sc:Scope}{Tb:D->List Slot}(p:D->Bool)(f:D->D)
  (hi:PId X (unO sd) PT0 tg iter ds) (hl:ds.length<=10000)
  (ht:∀cl C fp s H d,d∈ds->(ifs=[]/\p d=true)\/∃c,ifs=[c]/\PTd (cxB X N scope cl C fp s H) (Tb d) c (p d))
  (he:∀cl C fp s H d,d∈ds->p d=true->PEd (cxB X N scope cl C fp s H) (Tb d) elt (.val<|f d))
  (hg:∀cl C fp s H d,d∈ds->PGd (cxB X N scope cl C fp s H) (jT cap sd) tg d (Tb d):=by exact λ_ _ _ _ _ _ _=>pgN 0)
  (hle:∀d,d∈ds->Le (Tb d) (jT cap sd):=by intro _ _;repeat' (first|exact trivial|refine⟨.inr rfl, ?_⟩|refine⟨.inl rfl, ?_⟩))
  (hsc:X.env.scope=sc:=by rfl) (hcn:lC scope sc=true:=by decide+kernel) (hM:X.N=M:=by rfl) (hcap:jM N M scope sc cap=true:=by decide+kernel) (hk:scope.kind=.function:=by rfl)
  (hc:X.calm=true:=by rfl) (hs:∀x,Ae iter X.env x=pure x:=by intro _;rfl):
  PEd X sd (.ListComp elt [⟨tg,iter,ifs,0⟩] scope pos) (.own<|(ds.filter p).map f):=yC p f hi hl hsc hcn hM hcap hk hg hle ht he hc hs
theorem dL{C:List D->R->Prop}(F:FI K mg x st)
  (body:∀ (f:BC),N.Nodup→∀ (cdv:BA) (A:BD) (outer:List Env) (s:BB) (H:Hp) (E:XK),Room k (A.deeper (Ak x (bE st) s.heap.objs.size f cdv))→∀ds r,ds.length=ps.length→C ds r→
   PSd (jQ CX0 P w K mg base N x (bE st) f cdv A outer s H E).nox (init N.length ds) (dG st) {nx:=λ_=>r=.val .non,rt:=λr'=>r'=r})
  (nd:N.Nodup:=by decide+kernel) (S:N.Nodup->jC N ps (bE st):=by exact λnd=>⟨rfl,rfl,rfl,nd,rfl,by decide+kernel,by decide+kernel⟩)
  (hb:∀ (kV doc pm:BA) (an:Option BC) (cdv ct:BA) (us:List BA),us.length=ps.length→bindArgs (cU x x (fK st) (dG st) (bE st) .none kV doc pm an cdv ct) ⟨us,[]⟩=pure (ps.zip us):=by
   intro _ _ _ _ _ _ _ h
   first
   |(obtain⟨_,rfl⟩:=aMQ h;rfl)
   |(obtain⟨_,_,rfl⟩:=aNb h;rfl)
   |(obtain⟨_,_,_,rfl⟩:=aMK h;rfl)
   |(obtain⟨_,_,_,_,rfl⟩:=aOn h;rfl)
   |(obtain⟨_,_,_,_,_,rfl⟩:=len5 h;rfl)
   |(obtain⟨_,_,_,_,_,_,rfl⟩:=len6 h;rfl)):bP P w K mg base x (k+1) ps.length C:=by
 obtain⟨f,fd,hm,F⟩:=F;exact aGJ F (S nd) hm hb<|body f nd
end DL
set_option maxHeartbeats 400000
namespace K12
open PySem PySem.Spec PyProof.Rows L2 DL
noncomputable def top(i:Nat):BG:=PySem.Challenge.pw_leastrow_k12_texts_of_stocks.main.body.getD i<|.Pass ⟨0,0,0,0⟩
noncomputable abbrev aGM:BG:=top 9
noncomputable abbrev aET:BG:=top 10
noncomputable abbrev aGH:BG:=top 11
noncomputable abbrev aOm:BG:=top 13
noncomputable abbrev aJW:BG:=top 12
noncomputable abbrev sQ:BG:=top 17
noncomputable abbrev aEV:BG:=top 33
noncomputable abbrev aDc:BG:=top 34
noncomputable abbrev aDi:BG:=top 35
noncomputable abbrev aGT:BG:=top 36
noncomputable abbrev aDn:BG:=top 21
noncomputable abbrev sX:BG:=top 22
noncomputable abbrev pJ:BG:=top 23
noncomputable abbrev xQ:BG:=top 37
noncomputable abbrev aBY:BG:=top 27
noncomputable abbrev aDs:BG:=top 28
noncomputable abbrev zG:BG:=top 29
noncomputable abbrev uC:BG:=top 30
noncomputable abbrev uZ:BG:=top 31
noncomputable abbrev aHD:BG:=top 38
noncomputable abbrev aMm:BG:=top 39
noncomputable abbrev aJU:BG:=top 40
noncomputable abbrev aNe:BG:=top 41
noncomputable abbrev aBM:BG:=top 42
noncomputable abbrev aOF:BG:=top 43
noncomputable abbrev aOk:BG:=top 44
noncomputable abbrev aMD:BG:=top 45
noncomputable abbrev aGr:BG:=top 46
noncomputable abbrev zZ:BG:=aIr (top 2) 0
section
variable {P:AD}{w:AG}{K:aA}{mg:Str->Option BA}{base:BE}{f:BC}{fd:AJ}
theorem aOq{u d n c:Nat}(h:u+n<c)(hd:d+1<=n):u+d+1<c:=by omega
theorem uA(q:SQ):pl (sqD q)=true:=by
 show pl (lD _ _ _ _)=true;unfold lD
 split
 ·rfl
 ·split<;>rfl
theorem zL(q:SQ):dep (sqD q)=1:=by
 show dep (lD _ _ _ _)=1;unfold lD
 split
 ·rfl
 ·split<;>rfl
noncomputable def iW:D->D
 |.tup (x::_)=>x
 |_=>.non
noncomputable def aOt:D->List Slot->List Slot
 |.tup [x,y],r=>.val x::.val y::r
 |_,r=>.un::.un::r
theorem aDb{L:List SK}{t:Nat}{d:D}(h:(L.map skD)[t]? =some d):t<L.length/\d=skD (L.getD t An):=by
 rw[bQ] at h
 by_cases hl:t<L.length
 ·refine⟨hl, ?_⟩;simp[hl] at h;simp[dS,hl,h]
 ·rw[eA<|by omega] at h;cases h
theorem aLQ(n:Nat):(0:Int)<((2^n:Nat):Int):=by have:0<2^n:=Nat.pow_pos (by decide);generalize 2^n=q at this ⊢;omega
def kA(d:D):Prop:=(∀ns,d≠ .scr ns)/\∀G,d≠ .any G
def rW:List D->R->Prop:=λds r=>∃d,ds=[d]/\kA d/\r=.val (.bl<|isI d)
theorem aFy(F:FI K mg "is_whole" aGM)(zisinstance:mg "isinstance"=none)(zint:mg "int"=none)(zbool:mg "bool"=none):bP P w K mg base "is_whole" 1 1 rW:=by
 refine dL (N:=["thing"]) (ps:=["thing"]) (k:=0) F λf nd cdv A outer s H E hr ds r hl c=> ?_
 obtain⟨d,rfl,hd,rfl⟩:=c;refine aS<|bY (lP (iE rfl zisinstance rfl zint PyProof.Rows.boot_int (pdv 0) hd.1 (aIt _ d) hd.2) λ_=>mT (tU<|iE rfl zisinstance rfl zbool PyProof.Rows.boot_bool (pdv 0) hd.1 (aAO _ d) hd.2)) trivial ?_;cases d<;>rfl
def aGX(d:D):Prop:=kA d/\∀i,d=.int i->i.natAbs<2^250
def aMU(d:D):Prop:=kA d/\∀ds,d=.tup ds->∀x∈ds,aGX x
noncomputable def sL:D->Bool
 |.tup [.int a,.int b]=>decide (1<=a)&&(decide (1<=b)&&decide (a*b<=6))
 |_=>false
def zI:List D->R->Prop:=λds r=>∃d,ds=[d]/\aMU d/\r=.val (.bl<|sL d)
theorem aIo(F:FI K mg "is_size" aET)(zisinstance:mg "isinstance"=none)(ztuple:mg "tuple"=none)(zlen:mg "len"=none)(six:∃t,mg "MOST_BITS"=some (.int 6 t))(GW:bP P w K mg base "is_whole" 1 1 rW):bP P w K mg base "is_size" 2 1 zI:=by
 refine dL (N:=["thing","bits","boxes"]) (ps:=["thing"]) (k:=1) F λf nd cdv A outer s H E hr ds r hl c=> ?_
 obtain⟨d,rfl,hd,rfl⟩:=c;cases ht:isT d with
 |false=>refine aE<|eG (k:=true) (PWd.pt<|dN (k:=true) (j:=true) (dP (k:=false) (dX<|ht▸iE rfl zisinstance rfl ztuple PyProof.Rows.boot_tuple (pdv 0) hd.1.1 (jH _ d) hd.1.2)) λz=>nomatch z) rfl ?_;refine aS<|bY kT trivial ?_;cases d<;>first|rfl|cases ht
 |true=>
  cases d with
  |tup es=>
   have tst:∀k:Bool,(!decide (((es.length:Nat):Int)=2))=k->PTd (jQ CX0 P w K mg base ["thing","bits","boxes"] "is_size" (bE aET) f cdv A outer s H E).nox [.val<|.tup es,.un,.un] (match(dG aET).getD 0 (.Pass ⟨0,0,0,0⟩) with | .If t _ _ _=>t|_=> .Constant .none 0 ⟨0,0,0,0⟩) k:=λk e=>by refine PWd.pt (dN (k:=false) (j:=k) (dP (k:=true) (dX<|iE rfl zisinstance rfl ztuple PyProof.Rows.boot_tuple (pdv 0) hd.1.1 (jH _ _) hd.1.2)) λ_=>fU ?_);exact e▸iD (qW rfl zlen<|pdv 0) aP
   by_cases hlen:es.length=2
   ·obtain⟨x,y,rfl⟩:∃x y,es=[x,y]:=by
     match es,hlen with
     |[x,y],_=>exact⟨x,y,rfl⟩
    obtain⟨hx,hxb⟩:=hd.2 _ rfl x (by simp);obtain⟨hy,hyb⟩:=hd.2 _ rfl y (by simp);refine aHv (tst false rfl) ?_;refine aE<|kC 1 nd rfl (Or.inl rfl) (pdx (n:=0)<|pdv 0) ?_;refine aE<|kC 2 nd rfl (Or.inl rfl) (pdx (n:=1)<|pdv 0) ?_;have wh:∀ {e:Expr}{p q:Pos}{sd:List Slot}{X:Cx}{d:D},bP X.prog X.w X.K X.mg X.base "is_whole" 1 1 rW->Room 1 X.A->Gl X "is_whole"->AB [e] X.env=(false,eval e X.env)::AB [] X.env->PEd X sd e (.val d)->kA d->PEd X sd (.Call (.Name "is_whole" p) [e] [] q) (.val (.bl<|isI d)):=λg h1 h2 h3 h4 h5=>aDC (ds:=[_]) g h1 h2 (aB h4 aN trivial h3) ⟨_,rfl,h5,rfl⟩ trivial rfl (he:=h3)
    by_cases hxy:isI x=true/\isI y=true
    ·obtain⟨i,rfl⟩:∃i,x=.int i:=by cases x<;>first|exact⟨_,rfl⟩|(simp[isI] at hxy)
     obtain⟨j,rfl⟩:∃j,y=.int j:=by cases y<;>first|exact⟨_,rfl⟩|(simp[isI] at hxy)
     refine aE (lW (k:=(!isI (.int i)||!isI (.int j))) (PWd.pt (dN (dP (dX<|wh GW hr rfl rfl (pdv 1) hx)) λ_=>fU<|dP (dX<|wh GW hr rfl rfl (pdv 2) hy))) rfl<|cN ?_);obtain⟨t,h6⟩:=six;refine aS (kW<|lP (aHM aHK (pdv 1) aP<|eK _) λ_=>lP (aHM aHK (pdv 2) aP<|eK _) λ_=>mT (aHM mV (cP fV (pdv 1) (pdv 2) (rS (hxb i rfl)<|hyb j rfl)) (pU (i:=6) rfl h6 ⟨t,rfl⟩)<|eK _))
    ·have e2:(!isI x||!isI y)=true:=by cases e1:isI x<;>cases e3:isI y<;>simp_all
     have e3:sL (.tup [x,y])=false:=by cases x<;>first|(cases y<;>first|rfl|(simp[isI] at hxy))|rfl
     refine aE<|eG (k:=(!isI x||!isI y)) (PWd.pt (dN (dP (dX<|wh GW hr rfl rfl (pdv 1) hx)) λ_=>fU<|dP (dX<|wh GW hr rfl rfl (pdv 2) hy))) e2 ?_;refine aS<|bY kT trivial ?_;show R.val _=R.val _;rw[e3]
   ·refine aE (eG (k:=true) (tst true ?_) rfl ?_)
    ·have:¬ ((es.length:Nat):Int)=2:=by omega
     simp[this]
    ·refine aS<|bY kT trivial ?_;show R.val _=R.val _
     have:sL (.tup es)=false:=by
      unfold sL
      split
      ·rename_i heq;cases heq;exact absurd rfl hlen
      ·rfl
     rw[this]
  |_=>cases ht
def aHf:List D->R->Prop:=λds r=>∃p:Int×Int,ds=[bW p]/\0<=p.1/\p.1<=60/\r=.val (.int<|2^p.1.toNat)
theorem aFu(F:FI K mg "word_count" aGH)(zrange:mg "range"=none):bP P w K mg base "word_count" 1 1 aHf:=by
 refine dL (N:=["size","count","bit"]) (ps:=["size"]) (k:=0) F λf nd cdv A outer s H E hr ds r hl c=> ?_
 obtain⟨p,rfl,h0,h1,rfl⟩:=c;have ep:p.1=((p.1.toNat:Nat):Int):=by omega
 refine aE<|kC 1 nd rfl (Or.inl rfl) aP ?_;refine aE<|nL (ds:=gU 0 p.1.toNat) (λk=>[.val<|bW p,.val (.int<|2^k),.un]) (λk=>[.val<|bW p,.val (.int<|2^k),.val (.int<|0+(k:Int))]) (rY (n:=p.1.toNat) rfl zrange (PEd.cast (pdx (n:=0) (d:=.int p.1)<|pdv 0)<|by rw[<-ep])<|by omega) ⟨.inr rfl,.inr rfl,.inr rfl,trivial⟩ (λi d hd=> ?_) (λi d hd=> ?_) ?_
 ·obtain⟨_,rfl⟩:=fN hd;exact pgN 2
 ·refine aS<|kC 1 nd rfl (Or.inl rfl) (cP fV (pdv 1) aP (mW (by decide)<|by decide)) ?_;exact⟨.inr rfl,.inr rfl,.inl rfl,trivial⟩
 ·refine aS<|bY (pdv 1) trivial ?_;rw[iO]
noncomputable def gS(m:Int):D->Bool
 |.int i=>decide (0<=i)&&decide (i<m)
 |_=>false
def aOE:List D->R->Prop:=λds r=>∃p d,kA d/\ds=[bW p,d]/\r=.val (.bl<|gS p.2 d)
abbrev nl0:List Str:=["size","thing"]
theorem aMc(F:FI K mg "is_box" aOm)(GW:bP P w K mg base "is_whole" 1 1 rW):bP P w K mg base "is_box" 2 2 aOE:=by
 refine dL (N:=nl0) (ps:=nl0) (k:=1) F λf nd cdv A outer s H E hr ds r hl c=> ?_
 obtain⟨p,d,hd,rfl,rfl⟩:=c;refine aS<|bY (lP (j:=gS p.2 d) (pdc (ds:=[d]) GW hr (aB (pdv 1) aN) ⟨d,rfl,hd,rfl⟩) λh=> ?_) trivial ?_
 ·obtain⟨i,rfl⟩:∃i,d=.int i:=by cases d<;>first|exact⟨_,rfl⟩|(simp[isI] at h)
  exact mT<|rQ mV oG aP (pdv 1) (pdx (n:=1)<|pdv 0)
 ·cases d<;>rfl
def aJX:List D->R->Prop:=λds r=>∃ (p:Int×Int) (d:D),kA d/\p∈sizes14/\ds=[bW p,d]/\r=.val (.bl<|gS ((2^p.1.toNat:Nat):Int) d)
theorem aIp(F:FI K mg "is_word" aJW)(GW:bP P w K mg base "is_whole" 1 1 rW)(GC:bP P w K mg base "word_count" 1 1 aHf):bP P w K mg base "is_word" 2 2 aJX:=by
 refine dL (N:=nl0) (ps:=nl0) (k:=1) F λf nd cdv A outer s H E hr ds r hl c=> ?_
 obtain⟨p,d,hd,hp,rfl,rfl⟩:=c;obtain⟨h1,h2,h3,h4,h5⟩:=sG p hp;have ec:(2:Int)^p.1.toNat=((2^p.1.toNat:Nat):Int):=by push_cast;rfl
 refine aS<|bY (lP (j:=gS ((2^p.1.toNat:Nat):Int) d) (pdc (ds:=[d]) GW hr (aB (pdv 1) aN) ⟨d,rfl,hd,rfl⟩) λh=> ?_) trivial ?_
 ·obtain⟨i,rfl⟩:∃i,d=.int i:=by cases d<;>first|exact⟨_,rfl⟩|(simp[isI] at h)
  exact mT<|rQ mV oG aP (pdv 1) (PEd.cast (pdc (ds:=[bW p]) GC hr (aB (pdv 0) aN) ⟨p,rfl,by omega,by omega,rfl⟩)<|by rw[ec])
 ·cases d<;>rfl
def aHL(d:D):Prop:=kA d/\∀x y rest,d=.tup (x::y::rest)->pl x=true/\kA y/\∀z∈rest,kA z
def selfN:List Str:=["not","up","down"]
def anoN:List Str:=["and","or","xor","add","take","copy"]
noncomputable def mC(p:Int×Int)(x:D):List D->Bool
 |[z]=>if deq x (.str "put") then gS ((2^p.1.toNat:Nat):Int) z else(inD anoN x&&gS p.2 z)
 |_=>false
noncomputable def mH(p:Int×Int):D->Bool
 |.tup (x::y::rest)=>gS p.2 y&&(if inD selfN x then rest.isEmpty else mC p x rest)
 |_=>false
def aKn:List D->R->Prop:=λds r=>∃ (p:Int×Int) (d:D),p∈sizes14/\aHL d/\ds=[bW p,d]/\r=.val (.bl<|mH p d)
theorem aDH(F:FI K mg "is_step" sQ)(zisinstance:mg "isinstance"=none)(ztuple:mg "tuple"=none)(zlen:mg "len"=none)(byself:∃ad,mg "BY_ITSELF"=some (.ref ad)/\∀H:Hp,SqT K H ad<|selfN.map V.str)(byano:∃ad,mg "BY_ANOTHER"=some (.ref ad)/\∀H:Hp,SqT K H ad<|anoN.map V.str)(GB:bP P w K mg base "is_box" 2 2 aOE)(GW:bP P w K mg base "is_word" 2 2 aJX):bP P w K mg base "is_step" 3 2 aKn:=by
 refine dL (N:=nl0) (ps:=nl0) (k:=2) F λf nd cdv A outer s H E hr ds r hl c=> ?_
 obtain⟨p,d,hp,hd,rfl,rfl⟩:=c;have hu:=uN hr 1;obtain⟨as,hS,qS⟩:=byself;obtain⟨aa,hA,qA⟩:=byano;cases ht:isT d with
 |false=>refine aE<|eG (k:=true) (PWd.pt<|dN (k:=true) (j:=true) (dP (k:=false) (dX<|ht▸iE rfl zisinstance rfl ztuple PyProof.Rows.boot_tuple (pdv 1) hd.1.1 (jH _ d) hd.1.2)) λz=>nomatch z) rfl ?_;refine aS<|bY kT trivial ?_;cases d<;>first|rfl|cases ht
 |true=>
  cases d with
  |tup es=>
   refine aE<|cX (k:=(false||decide (((es.length:Nat):Int)<2))) (PWd.pt<|dN (k:=false) (dP (k:=true) (dX<|iE rfl zisinstance rfl ztuple PyProof.Rows.boot_tuple (pdv 1) hd.1.1 (jH _ _) hd.1.2)) λ_=>fU (iU oG (qW rfl zlen<|pdv 1) aP<|eK _)) (λh=> ?_) λh=>cN ?_
   ·have h':es.length<2:=by
     have:((es.length:Nat):Int)<2:=by simpa using h
     omega
    refine aS<|bY kT trivial ?_
    match es,h' with
    |[],_=>rfl
    |[x],_=>rfl
   have h':¬ es.length<2:=by
    have:¬ ((es.length:Nat):Int)<2:=by simpa using h
    omega
   obtain⟨x,y,rest,rfl⟩:∃x y rest,es=x::y::rest:=by
    match es,h' with
    |x::y::rest,_=>exact⟨x,y,rest,rfl⟩
    |[],h=>simp at h
    |[x],h=>simp at h
   obtain⟨px,ny,nz⟩:=hd.2 x y rest rfl;refine aE<|cX (dP (dX<|pdc (ds:=[bW p,y]) (r:=.val (.bl<|gS p.2 y)) GB hr (aB (pdv 0)<|aB (pdx (n:=1)<|pdv 1) aN) ⟨p,y,ny,rfl,rfl⟩)) (λh2=> ?_) λh2=>cN ?_
   ·have h2':gS p.2 y=false:=by have h2:(!gS p.2 y)=true:=h2;simpa using h2
    refine aS<|bY kT trivial ?_;show R.val (.bl false)=R.val (.bl<|gS p.2 y&&_);rw[h2'];rfl
   have h2':gS p.2 y=true:=by have h2:(!gS p.2 y)=false:=h2;simpa using h2
   refine aE<|cX (aFi rfl hS (λH=>qS H) hu (pdx (n:=0) (d:=x)<|pdv 1) px) (λh3=> ?_) λh3=>cN ?_
   ·refine aS<|bY (aBU (qW rfl zlen<|pdv 1) aP) trivial ?_;show R.val (.bl _)=R.val (.bl<|gS p.2 y&&(if inD selfN x then rest.isEmpty else mC p x rest));rw[h2',h3,if_pos rfl];cases rest with
    |nil=>rfl
    |cons z zs=>
     have:¬ (((x::y::z::zs).length:Nat):Int)=2:=by simp only[bM];omega
     simp[this];omega
   have goal:mH p (.tup (x::y::rest))=mC p x rest:=by show(gS p.2 y&&(if inD selfN x then rest.isEmpty else mC p x rest))=_;rw[h2',h3];simp
   rw[goal];refine aE<|cX (iD (qW rfl zlen<|pdv 1) aP) (λh4=> ?_) λh4=>cN ?_
   ·refine aS (bY kT trivial ?_)
    match rest with
    |[]=>rfl
    |[z]=>simp at h4
    |z::z2::zs=>rfl
   obtain⟨z,rfl⟩:∃z,rest=[z]:=by
    match rest with
    |[]=>simp at h4
    |[z]=>exact⟨z,rfl⟩
    |z::z2::zs=>
     have h5:(((x::y::z::z2::zs).length:Nat):Int)=3:=by simpa using h4
     simp only[bM] at h5;omega
   have nz':=nz z<|by simp
   have hp':PTd (jQ CX0 P w K mg base nl0 "is_step" (bE sQ) f cdv A outer s H E).nox [.val<|bW p,.val<|.tup [x,y,z]] (match(dG sQ).getD 4 (.Pass ⟨0,0,0,0⟩) with | .If t _ _ _=>t|_=> .Constant .none 0 ⟨0,0,0,0⟩) (deq x<|.str "put"):=by
    cases x with
    |non=>exact iA (pdx (n:=0)<|pdv 1) bO rfl rfl rfl rfl
    |bl q=>exact iA (pdx (n:=0)<|pdv 1) bO rfl rfl rfl (by simp[deq])
    |int q=>exact iA (pdx (n:=0)<|pdv 1) bO rfl rfl rfl (by simp[deq])
    |str q=>exact iA (pdx (n:=0)<|pdv 1) bO rfl rfl rfl (by rw[dZ];simp[deq])
    |tup q=>exact aAw (.inr ⟨_,rfl⟩) hu (pdx (n:=0)<|pdv 1) bO
    |lst q=>exact aAw (.inl ⟨_,rfl⟩) hu (pdx (n:=0)<|pdv 1) bO
    |dic=>simp[pl] at px
    |dki _ _=>simp[pl] at px
    |scr q=>simp[pl] at px
    |any q=>simp[pl] at px
   refine aE<|cX hp' (λh5=> ?_) λh5=>cN ?_
   ·refine aS<|bY (pdc (ds:=[bW p,z]) GW hr (aB (pdv 0)<|aB (pdx (n:=2)<|pdv 1) aN) ⟨p,z,nz',hp,rfl,rfl⟩) trivial ?_;show R.val (.bl _)=R.val (.bl (if deq x (.str "put") then _ else _));rw[h5,if_pos rfl]
   ·refine aS<|bY (lP (aJr rfl hA (λH=>qA H) hu (pdx (n:=0) (d:=x)<|pdv 1) px) λ_=>mT<|pdc (ds:=[bW p,z]) (r:=.val (.bl<|gS p.2 z)) GB hr (aB (pdv 0)<|aB (pdx (n:=2)<|pdv 1) aN) ⟨p,z,nz',rfl,rfl⟩) trivial ?_;show R.val (.bl _)=R.val (.bl (if deq x (.str "put") then _ else _));rw[h5,if_neg<|by decide]
  |_=>cases ht
noncomputable def aMt(k:Int)(st:Int×Int)(j:Nat):Int×Int:=((st.1*st.1+48271*st.1+69621*(j:Int)+k)%2147483629,st.2*998244353+(st.1*st.1+48271*st.1+69621*(j:Int)+k)%2147483629*16807%2147483587)
noncomputable def mL(k x0:Int)(t:Nat):Int×Int:=(cI t).foldl (aMt k) (x0,0)
theorem wC(k x0:Int)(t:Nat):mL k x0 (t+1)=aMt k (mL k x0 t) t:=by unfold mL;rw[aJI,List.foldl_append];rfl
theorem aJf{k x0:Int}(h:0<=x0/\x0<2^40):∀t,0<=(mL k x0 t).1/\(mL k x0 t).1<2^40
 |0=>h
 |t+1=>by rw[wC];have h0:=cM ((mL k x0 t).1*(mL k x0 t).1+48271*(mL k x0 t).1+69621*(t:Int)+k) (show(2147483629:Int)≠0 by decide);have h1:=cO ((mL k x0 t).1*(mL k x0 t).1+48271*(mL k x0 t).1+69621*(t:Int)+k) (show(0:Int)<2147483629 by decide);refine⟨h0, ?_⟩;show _%_<_;omega
noncomputable def x0D(ns:List Int)(k:Nat):Int:=if ns.isEmpty then(k:Int)*k+7*k+11 else(k:Int)*k+7*k+11+ns.getD (k%ns.length) 0%1000003*(2*(k:Int)+1)
noncomputable def eE(ns:List Int)(k:Nat):Int:=if k<ns.length then ns.getD k 0%most*7919^15%most else(mL k (x0D ns k) 8).2%most
def aBW:List D->R->Prop:=λds r=>∃ns k,ds=[.scr ns,.int ((k:Nat):Int)]/\k<=1000/\r=.val (.int<|eE ns k)
abbrev nl1:List Str:=["_law_script","_law_k","_law_most","_law_x","_law_found","_law_j"]
theorem aFf(F:FI K mg "_law_draw" aEV)(zlen:mg "len"=none)(zrange:mg "range"=none):bP P w K mg base "_law_draw" 1 2 aBW:=by
 refine dL (N:=nl1) (ps:=["_law_script","_law_k"]) (k:=0) F λf nd cdv A outer s H E hr ds r hl c=> ?_
 obtain⟨ns,k,rfl,hk,rfl⟩:=c;have hu:=uN hr 1
 have kk:((k:Nat):Int)*k<=1000000:=by
  have:k*k<=1000*1000:=iR hk hk;have e:((k*k:Nat):Int)=(k:Int)*k:=by push_cast;rfl
  omega
 have kk0:0<=((k:Nat):Int)*k:=aMz (by omega) (by omega);refine aE<|kC 2 nd rfl (Or.inl rfl) (cP fV aP (cP yD aP aP ⟨by decide,by decide,by decide⟩) (rS (by decide)<|by decide+kernel)) ?_;refine aE<|cX (iU oG (pdv 1) (zF rfl zlen<|pdv 0)<|eK _) (λh=> ?_) λh=>cN ?_
 ·have h':k<ns.length:=by simpa using h
  refine aS<|bY (cP eJ (cP fV (cP eJ (aGQ (z:=ns.getD k 0) (pdv 0) (pdv 1) (by simp[h']) λ_ _=>rfl) (pdv 2)<|by decide+kernel) (cP yD aP aP ⟨by decide,by decide,by decide⟩) (rS ?_<|by decide+kernel)) (pdv 2)<|by decide+kernel) trivial ?_
  ·have h1:=cM (ns.getD k 0) (show most≠0 by decide+kernel);have h2:=cO (ns.getD k 0) (show 0<most by decide+kernel);have h3:most<2^250:=by decide+kernel
   show(ns.getD k 0%most).natAbs<_;omega
  ·show R.val (.int _)=R.val (.int<|eE ns k);unfold eE;rw[if_pos h'];rfl
 have h':¬ k<ns.length:=by simpa using h
 have fin:∀x:Int,x=x0D ns k->0<=x/\x<2^40->PSd (jQ CX0 P w K mg base nl1 "_law_draw" (bE aEV) f cdv A outer s H E).nox [.val<|.scr ns,.val<|.int k,.val<|.int most,.val<|.int x,.un,.un] ((dG aEV).drop 4) (rtE<|R.val (.int<|eE ns k)):=λx hx xr=>by
  have mr:=aJf (k:=(k:Int)) xr;refine aE<|kC 4 nd rfl (Or.inl rfl) aP ?_;refine aE<|nL (ds:=gU 0 8) (λt=>[.val<|.scr ns,.val<|.int k,.val<|.int most,.val<|.int (mL k x t).1,.val<|.int (mL k x t).2,.un]) (λt=>[.val<|.scr ns,.val<|.int k,.val<|.int most,.val<|.int (mL k x t).1,.val<|.int (mL k x t).2,.val (.int<|0+(t:Int))]) (rY (n:=8) rfl zrange aP<|by decide) ⟨.inr rfl,.inr rfl,.inr rfl,.inr rfl,.inr rfl,.inr rfl,trivial⟩ (λt d hd=> ?_) (λt d hd=> ?_) ?_
  ·obtain⟨_,rfl⟩:=fN hd;exact pgN 5
  ·obtain⟨ht,rfl⟩:=fN hd;obtain⟨a0,a1⟩:=mr t;have es:=wC k x t;generalize mL k x t=st at *;obtain⟨u,v⟩:=st;simp only at a0 a1;refine aE<|fM (d:=.int<|(u*u+48271*u+69621*(0+(t:Int))+k)%2147483629) 3 (cP eJ (iJ fR (iJ fR (iJ fR (cP fV (pdv 3) (pdv 3) (mW (by omega)<|by omega))<|cP fV aP (pdv 3) (mW (by omega)<|by omega))<|cP fV aP (pdv 5) (mW (by omega)<|by omega))<|pdv 1) aP<|by decide) ?_;refine aS<|fM (d:=.int<|v*998244353+(u*u+48271*u+69621*(0+(t:Int))+k)%2147483629*16807%2147483587) 4 (iJ fR (cP fV (pdv 4) aP (mW (by decide)<|by decide)) (cP eJ (cP fV (pdv 3) aP (mW (by decide)<|by decide)) aP<|by decide)) ?_;refine⟨.inr rfl,.inr rfl,.inr rfl,.inr ?_,.inr ?_,.inl rfl,trivial⟩
   ·rw[es];unfold aMt;rw[aEF]
   ·rw[es];unfold aMt;rw[aEF]
  ·refine aS<|bY (cP eJ (pdv 4) (pdv 2)<|by decide+kernel) trivial ?_;show R.val (.int<|(mL k x (gU 0 8).length).2%most)=R.val (.int<|eE ns k);unfold eE;rw[if_neg h',iO,hx]
 refine aE<|fM (d:=.int<|(k:Int)*k+7*k+11) 3 (iJ fR (iJ fR (cP fV (pdv 1) (pdv 1) (mW (by omega)<|by omega))<|cP fV aP (pdv 1) (mW (by omega)<|by omega)) aP) ?_;refine aE<|cX (aFW hu (pdv 0)<|PEd.val (kM (ds:=[]) aN<|bU _)) (λh2=> ?_) λh2=>cN ?_
 ·have h2':ns.isEmpty=false:=by simpa using h2
  have h3:ns.length>0:=by cases ns with|nil=>simp at h2'|cons _ _=>simp
  have em:((k:Nat):Int)%((ns.length:Nat):Int)=((k%ns.length:Nat):Int):=by omega
  have lt:k%ns.length<ns.length:=dI _ h3;have hb1:=cM (ns.getD (k%ns.length) 0) (show(1000003:Int)≠0 by decide);have hb2:=cO (ns.getD (k%ns.length) 0) (show(0:Int)<1000003 by decide);refine aS<|fM (d:=.int<|(k:Int)*k+7*k+11+ns.getD (k%ns.length) 0%1000003*(2*(k:Int)+1)) 3 (iJ fR (pdv 3)<|cP fV (cP eJ (aHP (z:=ns.getD (k%ns.length) 0) (pdv 0) (cP eJ (pdv 1) (zF rfl zlen<|pdv 0)<|by omega) (by rw[em];omega) (by rw[em,cD];simp[lt]) λ_ _=>rfl) aP<|by decide) (iJ fR (cP fV aP (pdv 1) (mW (by omega)<|by omega)) aP) (mW (by omega)<|by omega)) ?_;refine fin _ (by unfold x0D;rw[h2'];rfl) ?_;generalize ns.getD (k%ns.length) 0%1000003=y at *;have m1:y*(2*(k:Int)+1)<=1000003*2001:=Int.mul_le_mul (by omega) (by omega) (by omega) (by omega);have m0:0<=y*(2*(k:Int)+1):=aMz (by omega) (by omega);omega
 ·have h2':ns.isEmpty=true:=by simpa using h2
  exact fin _ (by unfold x0D;rw[h2'];rfl)<|by omega
theorem aEk(F:FI K mg "_law_digits" aDc):bP P w K mg base "_law_digits" 1 2 yG:=by
 refine dL (N:=["_law_x","_law_sizes","_law_found","_law_size_here"]) (ps:=["_law_x","_law_sizes"]) (k:=0) F λf nd cdv A outer s H E hr ds r hl c=> ?_
 obtain⟨x,ns,rfl,hp,hn,rfl⟩:=c;refine aE<|aBb 2 nd rfl (Or.inl rfl) (kM (ds:=[]) aN<|bU _) λl=> ?_
 refine aE (nL (ds:=ns.map D.int) (fun k=>[.val (.int (aJD x (ns.take k))), .val (.lst (ns.map D.int)), .own l ((uK x (ns.take k)).map D.int), .un]) (fun k=>[.val (.int (aJD x (ns.take k))), .val (.lst (ns.map D.int)), .own l ((uK x (ns.take k)).map D.int), .val (.int (ns.getD k 0))])
  (gO (pdv 1)) ⟨.inr rfl,.inr rfl,.inr rfl,.inr rfl,trivial⟩ (λk d hd=> ?_) (λk d hd=> ?_) ?_)
 ·obtain⟨hk,rfl⟩:=aAX hd;exact pgN 3
 ·obtain⟨hk,rfl⟩:=aAX hd;have hm:ns.getD k 0∈ns:=by simp[dS,hk]
  obtain⟨h1,h2⟩:=hp _ hm
  have et:ns.take (k+1)=ns.take k++[ns.getD k 0]:=by rw[iK];simp[dS,hk]
  refine aE<|iN 2 rfl (pv 2) (cP eJ (pdv 0) (pdv 3) h1) ?_ ?_
  ·rw[aD,aAJ,eC];omega
  ·refine aS<|kC 0 nd rfl (Or.inl rfl) (cP aAU (pdv 0) (pdv 3) ⟨h1,h2⟩) ?_;refine⟨.inr ?_,.inr rfl,.inr ?_,.inl rfl,trivial⟩
   ·rw[et,vY]
   ·rw[et,wU,aT];rfl
 ·refine aS<|aAT 2 rfl (pv 2) ?_;show R.own _=R.own _;rw[aD,mI]
theorem aEx(F:FI K mg "_law_size" aDi)(zlen:mg "len"=none):bP P w K mg base "_law_size" 1 1 aKm:=by
 refine dL (N:=["_law_number","_law_sizes"]) (ps:=["_law_number"]) (k:=0) F λf nd cdv A outer s H E hr ds r hl c=> ?_
 obtain⟨z,rfl,rfl⟩:=c;refine aE<|pE (ds:=[bW (2,2),bW (1,1),bW (1,2),bW (2,1),bW (1,3),bW (3,1),bW (2,3),bW (3,2),bW (1,4),bW (4,1)]) 1 (pdL (ds:=[bW (2,2),bW (1,1),bW (1,2),bW (2,1),bW (1,3),bW (3,1),bW (2,3),bW (3,2),bW (1,4),bW (4,1)]) ?_) λl=> ?_
 ·repeat' (first|exact aN|refine aB (aGZ rfl rfl) ?_)
 refine aE<|pE (ds:=[bW (2,2),bW (1,1),bW (1,2),bW (2,1),bW (1,3),bW (3,1),bW (2,3),bW (3,2),bW (1,4),bW (4,1)]++[bW (1,5),bW (5,1),bW (1,6),bW (6,1)]) 1 (gQ (fJ 1 rfl<|pv 1) (pdL (ds:=[bW (1,5),bW (5,1),bW (1,6),bW (6,1)]) ?_).val.bor<|cG rfl) λl2=> ?_
 ·repeat' (first|exact aN|refine aB (aGZ rfl rfl) ?_)
 have h0:=cM z (show(14:Int)≠0 by decide);have h1:=cO z (show(0:Int)<14 by decide);refine aS (kW<|nK (i:=z%14) (d:=bW<|rX z) (fJ 1 rfl<|pv 1) (cP (i:=z) (j:=14) eJ (pdv 0) (PEd.cast (dR rfl zlen (fJ 1 rfl<|pv 1)) rfl)<|by decide) h0 ?_ λ_ _=>rfl);show(sizes14.map bW)[(z%14).toNat]? =_;rw[bQ];unfold rX
 have hlt:(z%14).toNat<sizes14.length:=by show _<14;omega
 simp[dS,hlt]
theorem aBv(z:Int):rX z∈sizes14:=by
 have h0:=cM z (show(14:Int)≠0 by decide);have h1:=cO z (show(0:Int)<14 by decide)
 have hlt:(z%14).toNat<sizes14.length:=by show _<14;omega
 exact aFe hlt
noncomputable def kOf(x:Int):Nat:=(x%10).toNat
noncomputable def iOf(p:Int×Int)(x:Int):Int:=x / 10%60%p.2
noncomputable def jOf(p:Int×Int)(x:Int):Int:=x / 10 / 60%60%p.2
noncomputable def nOf(p:Int×Int)(x:Int):Int:=x / 10 / 60 / 60%64%((2^p.1.toNat:Nat):Int)
noncomputable def uX(p:Int×Int)(x:Int):D:=lD (kOf x) (iOf p x) (jOf p x)<|nOf p x
def aGL:List D->R->Prop:=λds r=>∃x p,p∈sizes14/\ds=[.int x,bW p]/\r=.val (uX p x)
theorem aGc(F:FI K mg "_law_step" aGT)(GG:bP P w K mg base "_law_digits" 1 2 yG):bP P w K mg base "_law_step" 2 2 aGL:=by
 refine dL (N:=["_law_x","_law_size_here","_law_kind","_law_i","_law_j","_law_n","_law_words"]) (ps:=["_law_x","_law_size_here"]) (k:=1) F λf nd cdv A outer s H E hr ds r hl c=> ?_
 obtain⟨x,p,hp,rfl,rfl⟩:=c;obtain⟨h1,h2,h3,h4,h5⟩:=sG p hp;have hm0:=aLQ p.1.toNat;have p20:(0:Int)<p.2:=by omega
 have d0:=cM x (show(10:Int)≠0 by decide);have d1:=cO x (show(0:Int)<10 by decide)
 refine aE (sY (d:= .lst ((uK x [10,60,60,64]).map D.int)) (PEd.val (pdc (ds:=[.int x, .lst ([10,60,60,64].map D.int)]) GG hr (aB (pdv 0) (aB (PEd.val (pdL (ds:=[.int 10, .int 60, .int 60, .int 64]) (aB aP (aB aP (aB aP (aB aP aN)))))) aN)) ⟨_,[10,60,60,64],rfl,by decide,by decide,rfl⟩))
  (aCO (js:=[2,3,4,5]) rfl (dO (pgn 2) (dO (pgn 3) (dO (pgn 4) (dO (pgn 5) kE)))) rfl rfl) ?_)
 refine aE<|pE (ds:=stepNames.map D.str) 6 (pdL (ds:=[.str "and",.str "or",.str "xor",.str "add",.str "take",.str "copy",.str "put",.str "not",.str "up",.str "down"]) ?_) λl=> ?_
 ·repeat' (first|exact aN|refine aB bO ?_)
 have wk:(stepNames.map D.str)[(x%10).toNat]? =some (.str (nm<|kOf x)):=by
  rw[bQ]
  have:(x%10).toNat<stepNames.length:=by show _<10;omega
  unfold nm kOf;simp[dS,this]
 refine aE<|cX (iU oG (pdv 2) aP<|eK _) (λh=> ?_) λh=>cN ?_
 ·have h':x%10<6:=by simpa using h
  have es:uX p x=.tup [.str (nm<|kOf x),.int<|iOf p x,.int<|jOf p x]:=by unfold uX lD;rw[if_pos (show kOf x<6 by unfold kOf;omega)]
  rw[es];exact aS<|kW (pdT (ds:=[.str (nm<|kOf x),.int<|iOf p x,.int<|jOf p x])<|aB (nK (i:=x%10) (fJ 6 rfl<|pv 6) (pdv 2) d0 wk λ_ _=>rfl) (aB (cP eJ (pdv 3) (pdx (n:=1) (d:=.int p.2)<|pdv 1) p20)<|aB (cP eJ (pdv 4) (pdx (n:=1) (d:=.int p.2)<|pdv 1) p20) aN))
 have h':¬ x%10<6:=by simpa using h
 refine aE<|cX (gP (pdv 2) aP) (λh2=> ?_) λh2=>cN ?_
 ·have h2':x%10=6:=by simpa using h2
  have es:uX p x=.tup [.str (nm<|kOf x),.int<|iOf p x,.int<|nOf p x]:=by unfold uX lD;rw[if_neg (show ¬ kOf x<6 by unfold kOf;omega),if_pos (show kOf x=6 by unfold kOf;omega)]
  rw[es];refine aS<|kW (pdT (ds:=[.str (nm<|kOf x),.int<|iOf p x,.int<|nOf p x])<|aB (nK (i:=x%10) (fJ 6 rfl<|pv 6) (pdv 2) d0 wk λ_ _=>rfl) (aB (cP eJ (pdv 3) (pdx (n:=1) (d:=.int p.2)<|pdv 1) p20)<|aB (cP eJ (pdv 5) (nK (i:=p.1) (d:=.int ((2^p.1.toNat:Nat):Int)) (PEd.bor (PEd.val<|pdL (ds:=[.int 1,.int 2,.int 4,.int 8,.int 16,.int 32,.int 64]) ?_)) (pdx (n:=0)<|pdv 1) (by omega) (aCY _<|by omega) λ_ _=>rfl) hm0) aN))
  repeat' (first|exact aN|refine aB aP ?_)
 have h2':¬ x%10=6:=by simpa using h2
 have es:uX p x=.tup [.str (nm<|kOf x),.int<|iOf p x]:=by unfold uX lD;rw[if_neg (show ¬ kOf x<6 by unfold kOf;omega),if_neg (show ¬ kOf x=6 by unfold kOf;omega)]
 rw[es];exact aS (kW<|pdT (ds:=[.str (nm<|kOf x),.int<|iOf p x]) (aB (nK (i:=x%10) (fJ 6 rfl<|pv 6) (pdv 2) d0 wk λ_ _=>rfl)<|aB (cP eJ (pdv 3) (pdx (n:=1) (d:=.int p.2)<|pdv 1) p20) aN))
noncomputable def prB:D->Bool
 |.int i=>decide (1<=i)&&decide (i<=9)
 |_=>false
def aDr:List D->R->Prop:=λds r=>∃d,ds=[d]/\kA d/\r=.val (.bl<|prB d)
theorem aEs(F:FI K mg "is_price" aDn)(nine:∃t,mg "HIGHEST_PRICE"=some (.int 9 t))(GW:bP P w K mg base "is_whole" 1 1 rW):bP P w K mg base "is_price" 2 1 aDr:=by
 refine dL (N:=["thing"]) (ps:=["thing"]) (k:=1) F λf nd cdv A outer s H E hr ds r hl c=> ?_
 obtain⟨d,rfl,hd,rfl⟩:=c;obtain⟨t,h9⟩:=nine;refine aS<|bY (lP (j:=prB d) (pdc (ds:=[d]) GW hr (aB (pdv 0) aN) ⟨d,rfl,hd,rfl⟩) λh=> ?_) trivial ?_
 ·obtain⟨i,rfl⟩:∃i,d=.int i:=by cases d<;>first|exact⟨_,rfl⟩|(simp[isI] at h)
  exact mT (rQ mV mV aP (pdv 0)<|pU (i:=9) rfl h9 ⟨t,rfl⟩)
 ·cases d<;>rfl
def aMY(d:D):Prop:=kA d/\∀x y,d=.tup [x,y]->aHL x/\kA y
noncomputable def jS(p:Int×Int):D->Bool
 |.tup [x,y]=>mH p x&&prB y
 |_=>false
def aOG:List D->R->Prop:=λds r=>∃ (p:Int×Int) (d:D),p∈sizes14/\aMY d/\ds=[bW p,d]/\r=.val (.bl<|jS p d)
theorem aDU(F:FI K mg "is_priced_step" sX)(zisinstance:mg "isinstance"=none)(ztuple:mg "tuple"=none)(zlen:mg "len"=none)(GS:bP P w K mg base "is_step" 3 2 aKn)(GP:bP P w K mg base "is_price" 2 1 aDr):bP P w K mg base "is_priced_step" 4 2 aOG:=by
 refine dL (N:=nl0) (ps:=nl0) (k:=3) F λf nd cdv A outer s H E hr ds r hl c=> ?_
 obtain⟨p,d,hp,hd,rfl,rfl⟩:=c;cases ht:isT d with
 |false=>refine aE<|eG (k:=true) (PWd.pt<|dN (k:=true) (j:=true) (dP (k:=false) (dX<|ht▸iE rfl zisinstance rfl ztuple PyProof.Rows.boot_tuple (pdv 1) hd.1.1 (jH _ d) hd.1.2)) λz=>nomatch z) rfl ?_;refine aS<|bY kT trivial ?_;cases d<;>first|rfl|cases ht
 |true=>
  cases d with
  |tup es=>
   have tst:∀k:Bool,(!decide (((es.length:Nat):Int)=2))=k->PTd (jQ CX0 P w K mg base nl0 "is_priced_step" (bE sX) f cdv A outer s H E).nox [.val<|bW p,.val<|.tup es] (match(dG sX).getD 0 (.Pass ⟨0,0,0,0⟩) with | .If t _ _ _=>t|_=> .Constant .none 0 ⟨0,0,0,0⟩) k:=λk e=>by refine PWd.pt (dN (k:=false) (j:=k) (dP (k:=true) (dX<|iE rfl zisinstance rfl ztuple PyProof.Rows.boot_tuple (pdv 1) hd.1.1 (jH _ _) hd.1.2)) λ_=>fU ?_);exact e▸iD (qW rfl zlen<|pdv 1) aP
   by_cases hlen:es.length=2
   ·obtain⟨x,y,rfl⟩:∃x y,es=[x,y]:=by
     match es,hlen with
     |[x,y],_=>exact⟨x,y,rfl⟩
    obtain⟨hx,hy⟩:=hd.2 x y rfl;refine aHv (tst false rfl) ?_;exact aS<|kW (lP (k:=mH p x) (j:=prB y) (pdc (ds:=[bW p,x]) GS hr (aB (pdv 0)<|aB (pdx (n:=0)<|pdv 1) aN) ⟨p,x,hp,hx,rfl,rfl⟩) λ_=>mT<|pdc (ds:=[y]) GP hr (aB (pdx (n:=1)<|pdv 1) aN) ⟨y,rfl,hy,rfl⟩)
   ·refine aE (eG (k:=true) (tst true ?_) rfl ?_)
    ·have:¬ ((es.length:Nat):Int)=2:=by omega
     simp[this]
    ·refine aS<|bY kT trivial ?_;show R.val _=R.val _
     have:jS p (.tup es)=false:=by
      unfold jS
      split
      ·rename_i heq;cases heq;exact absurd rfl hlen
      ·rfl
     rw[this]
  |_=>cases ht
def aMT(d:D):Prop:=kA d/\∀es,d=.lst es->es.length<=900/\∀e∈es,aMY e
noncomputable def aOH:D->Key
 |.int i=>.inl i
 |.str s=>.inr s
 |_=>.inl 0
noncomputable def aER:D->List Key
 |.tup ds=>ds.map aOH
 |_=>[]
noncomputable def pR(d:D):List Key:=aER<|iW d
noncomputable def sK(p:Int×Int):D->Bool
 |.lst es=>(decide (1<=es.length)&&decide (es.length<=8))&&(es.all (jS p)&&decide ((es.map pR).Nodup))
 |_=>false
theorem aCr{x:D}{n:Str}(h:deq x (.str n)=true):x=.str n:=by cases x<;>simp[deq] at h;rw[h]
theorem aFv{x:D}{n:Str}(h:deq (.str n) x=true):x=.str n:=by cases x<;>simp[deq] at h;rw[h]
theorem sW{x:D}{ns:List Str}(h:inD ns x=true):∃n∈ns,x=.str n:=by unfold inD at h;obtain⟨n,hn,h⟩:=eY.mp h;exact⟨n,hn,aFv h⟩
theorem kZ{m:Int}{d:D}(h:gS m d=true):∃i,d=.int i:=by cases d<;>first|exact⟨_,rfl⟩|simp[gS] at h
theorem aDd{p:Int×Int}{x:D}(h:mH p x=true):x=.tup ((aER x).map kD):=by
 unfold mH at h
 split at h
 ·rename_i x y rest;simp only[aR] at h;obtain⟨h1,h2⟩:=h;obtain⟨i,rfl⟩:=kZ h1
  split at h2
  ·rename_i hs;obtain⟨n,_,rfl⟩:=sW hs;have:rest=[]:=by simpa using h2
   subst this;rfl
  ·unfold mC at h2
   split at h2
   ·rename_i z
    split at h2
    ·rename_i hp;obtain⟨j,rfl⟩:=kZ h2;rw[aCr hp];rfl
    ·simp only[aR] at h2;obtain⟨n,_,rfl⟩:=sW h2.1;obtain⟨j,rfl⟩:=kZ h2.2;rfl
   ·cases h2
 ·cases h
theorem aAF{p:Int×Int}{d:D}(h:jS p d=true):∃x y,d=.tup [x,y]/\mH p x=true:=by
 unfold jS at h
 split at h
 ·simp only[aR] at h;exact⟨_,_,rfl,h.1⟩
 ·cases h
theorem aLw{p:Int×Int}{d:D}(h:jS p d=true):iW d=.tup ((pR d).map kD):=by obtain⟨x,y,rfl,hx⟩:=aAF h;exact aDd hx
theorem aAZ:∀ks:List (List Key),∃T:List (List Key),T.Nodup/\(∀k,k∈T↔k∈ks)/\T.length<=ks.length/\(T.length=ks.length↔ks.Nodup)
 |[]=>⟨[],fA,λk=>Iff.rfl,aO _,⟨λ_=>fA,λ_=>rfl⟩⟩
 |a::ks=>by
  obtain⟨T,h1,h2,h3,h4⟩:=aAZ ks
  by_cases ha:a∈ks
  ·refine⟨T,h1,λk=> ?_,by simp;omega,⟨λz=> ?_,λz=> ?_⟩⟩
   ·rw[h2,aG];exact⟨.inr,λz=>z.elim (λq=>q▸ha) id⟩
   ·simp at z;omega
   ·exact absurd ha (dY.mp z).1
  ·refine⟨a::T,dY.mpr ⟨λz=>ha<|(h2 a).mp z,h1⟩,λk=> ?_,by simp;omega,⟨λz=> ?_,λz=> ?_⟩⟩
   ·rw[aG,aG,h2]
   ·have z:T.length=ks.length:=by simpa using z
    exact dY.mpr ⟨ha,h4.mp z⟩
   ·have:=h4.mpr (dY.mp z).2;simp[this]
theorem aEf{ks T T':List (List Key)}(h1:T.Nodup)(h2:∀k,k∈T↔k∈ks)(h3:T'.Nodup)(h4:∀k,k∈T'↔k∈ks):T'.length=T.length:=by
 have:=(xF h3 h1).mpr λk=>(h4 k).trans (h2 k).symm
 exact this.length_eq
def aMH:List D->R->Prop:=λds r=>∃ (p:Int×Int) (d:D),p∈sizes14/\aMT d/\ds=[bW p,d]/\r=.val (.bl<|sK p d)
theorem aEe(F:FI K mg "is_stock" pJ)(zisinstance:mg "isinstance"=none)(zlist:mg "list"=none)(zlen:mg "len"=none)(zall:mg "all"=none)(zset:mg "set"=none)(most:∃t,mg "MOST_STEPS"=some (.int 8 t))(GP:bP P w K mg base "is_priced_step" 4 2 aOG):bP P w K mg base "is_stock" 5 2 aMH:=by
 have nd2:(["part","size"]:List Str).Nodup:=by decide+kernel
 have nd3:(["part"]:List Str).Nodup:=by decide+kernel
 refine dL (N:=nl0) (ps:=nl0) (k:=4) F λf nd cdv A outer s H E hr ds r hl c=> ?_
 obtain⟨p,d,hp,hd,rfl,rfl⟩:=c;have hu:(A.deeper<|Ak "is_stock" (bE pJ) s.heap.objs.size f cdv).units+10<AN:=by have:=hr.un;omega
 obtain⟨t8,h8⟩:=most;cases ht:isL d with
 |false=>refine aE<|eG (k:=true) (PWd.pt<|dN (k:=true) (j:=true) (dP (k:=false) (dX<|ht▸iE rfl zisinstance rfl zlist PyProof.Rows.boot_list (pdv 1) hd.1.1 (aAp _ d) hd.1.2)) λz=>nomatch z) rfl ?_;refine aS<|bY kT trivial ?_;cases d<;>first|rfl|cases ht
 |true=>
  cases d with
  |lst es=>
   obtain⟨l9,oks⟩:=hd.2 es rfl;refine aE<|cX (k:=(false||!(decide ((1:Int)<=((es.length:Nat):Int))&&decide (((es.length:Nat):Int)<=8)))) (PWd.pt (dN (k:=false) (dP (k:=true) (dX<|iE rfl zisinstance rfl zlist PyProof.Rows.boot_list (pdv 1) hd.1.1 (aAp _ _) hd.1.2)) λ_=>fU<|dP (oP mV mV aP (dR rfl zlen (PEd.bor<|pdv 1))<|pU (i:=8) rfl h8 ⟨t8,rfl⟩))) (λh=> ?_) λh=>cN ?_
   ·refine aS (bY kT trivial ?_)
    have h':¬ (1<=es.length/\es.length<=8):=by simp at h;omega
    show R.val (.bl false)=R.val (.bl<|(decide (1<=es.length)&&decide (es.length<=8))&&_);rw[show(decide (1<=es.length)&&decide (es.length<=8))=false by simpa using h'];rfl
   have h':1<=es.length/\es.length<=8:=by simp at h;omega
   have e1:sK p (.lst es)=(es.all (jS p)&&decide ((es.map pR).Nodup)):=by show((decide (1<=es.length)&&decide (es.length<=8))&&_)=_;rw[decide_eq_true h'.1,decide_eq_true h'.2];rfl
   rw[e1];refine aE<|cX (k:= !(es.all<|jS p)) (dP (dX<|PEd.cast (aCm (bs:=es.map<|jS p) rfl zall<|PEd.bor (PEd.val<|PEd.cast (pdC (ds:=es) (N:=["part","size"]) (M:=nl0) (cap:=[none,some 0]) (sc:=bE pJ) (Tb:=λd=>[.val d,.val<|bW p]) (λ_=>true) (λd=>.bl<|jS p d) (gO<|pdv 1) (by omega) (λcl C fp s H d hd=>.inl ⟨rfl,rfl⟩) λcl C fp s H d hd _=> ?_) ?_)) ?_)) (λh2=> ?_) λh2=>cN ?_
   ·exact pdc (ds:=[bW p,d]) GP hr (aB (pdv 1)<|aB (pdv 0) aN) ⟨p,d,hp,oks d hd,rfl,rfl⟩
   ·rw[dU.mpr λ_ _=>rfl,cJ];rfl
   ·rw[aOc];rfl
   ·refine aS<|bY kT trivial ?_;rw[show es.all (jS p)=false by simpa using h2];rfl
   have h2':es.all (jS p)=true:=by simpa using h2
   rw[h2',rD];have al:∀e∈es,jS p e=true:=bJ.mp h2';obtain⟨T,t1,t2,t3,t4⟩:=aAZ<|es.map pR;refine aS<|bY (PEd.cast (aBU (aEw (ks:=es.map pR) (n:=T.length) hu rfl zlen rfl zset (PEd.val<|PEd.cast (pdC (ds:=es) (N:=["part"]) (M:=nl0) (cap:=[none]) (sc:=bE pJ) (Tb:=λd=>[.val d]) (λ_=>true) iW (gO<|pdv 1) (by omega) (λcl C fp s H d hd=>.inl ⟨rfl,rfl⟩) λcl C fp s H d hd _=> ?_) ?_) (by rw[aD];omega) λT' n1 n2=>aEf t1 t2 n1 n2)<|dR rfl zlen (PEd.bor<|pdv 1)) ?_) trivial rfl
   ·obtain⟨x,y,rfl,_⟩:=aAF<|al d hd;exact pdx (n:=0)<|pdv 0
   ·rw[dU.mpr λ_ _=>rfl,cJ];congr 1;exact jP λd hd=>aLw<|al d hd
   ·congr 2;rw[aD] at t4;rw[dZ,decide_eq_true_iff,decide_eq_true_iff,<-t4];exact⟨λz=>by omega,λz=>by omega⟩
  |scr ns=>exact absurd rfl<|hd.1.1 ns
  |_=>cases ht
noncomputable def stE(p:Int×Int)(x:Int):SQ:=(kOf x,iOf p x,jOf p x,nOf p x)
theorem aKu{p:Int×Int}(hp:p∈sizes14)(x:Int):oE p (stE p x):=by
 obtain⟨h1,h2,h3,h4,h5⟩:=sG p hp;have p20:(0:Int)<p.2:=by omega
 have m0:=pw0 p.1.toNat;have d0:=cM x (show(10:Int)≠0 by decide);have d1:=cO x (show(0:Int)<10 by decide);exact⟨hp,by show(x%10).toNat<10;omega,⟨cM _<|sN p20,cO _ p20⟩,⟨cM _<|sN p20,cO _ p20⟩,⟨cM _<|sN m0,cO _ m0⟩⟩
noncomputable def pcA(x:Int):Int:=1+x%9
theorem aLg(x:Int):1<=pcA x/\pcA x<=9:=by have h0:=cM x (show(9:Int)≠0 by decide);have h1:=cO x (show(0:Int)<9 by decide);unfold pcA;omega
noncomputable def skN(p:Int×Int)(ns:List Int)(st:Nat):Nat->List SK
 |0=>[]
 |t+1=>if((skN p ns st t).map skD |>.map iW).any (λz=>deq z<|sqD (stE p<|eE ns (st+1+t) / 9)) then skN p ns st t else skN p ns st t++[(stE p<|eE ns (st+1+t) / 9,pcA (eE ns<|st+1+t))]
noncomputable def skT(ns:List Int)(st m:Nat):Nat:=1+(eE ns st%(m:Int)).toNat
theorem aGB(ns:List Int)(st:Nat){m:Nat}(h:0<m):1<=skT ns st m/\skT ns st m<=m:=by have r0:=cM (eE ns st) (show(m:Int)≠0 by omega);have r1:=cO (eE ns st) (show(0:Int)<(m:Int) by omega);unfold skT;omega
theorem aBT{p:Int×Int}(hp:p∈sizes14)(ns:List Int)(st:Nat):∀t,(skN p ns st t).length<=t/\(0<t->0<(skN p ns st t).length)/\(∀s∈skN p ns st t,oE p s.1/\1<=s.2/\s.2<=9)/\((skN p ns st t).map λs=>sqD s.1).Pairwise (λa b=>deq a b=false)
 |0=>⟨aO _,λh=>by omega,(λs hs=>by cases hs),List.Pairwise.nil⟩
 |t+1=>by
  obtain⟨a,b,c,e⟩:=aBT hp ns st t;unfold skN
  split
  ·rename_i h;refine⟨by omega,λ_=> ?_,c,e⟩;cases e:skN p ns st t with
   |nil=>rw[e] at h;simp at h
   |cons _ _=>simp
  ·rename_i h;refine⟨by rw[aU];simp;omega,λ_=>by rw[aU];simp,λs hs=> ?_, ?_⟩
   ·rcases aW.mp hs with hs|hs
    ·exact c s hs
    ·rw[bX.mp hs];exact⟨aKu hp _,aLg _⟩
   ·rw[aT];refine dQ.mpr ⟨e,aBd _ _,λx hx y hy=> ?_⟩;obtain⟨s,hs,rfl⟩:=bA.mp hx;have hy:y=sqD (stE p<|eE ns (st+1+t) / 9):=by simpa using hy
    subst hy;have h':((skN p ns st t).map skD |>.map iW).any (λz=>deq z<|sqD (stE p<|eE ns (st+1+t) / 9))=false:=by simpa using h
    rw[sD] at h';have:=h' (sqD s.1)<|bA.mpr ⟨skD s,bT hs,rfl⟩;simpa using this
def aGR:List D->R->Prop:=λds r=>∃ns p st m,p∈sizes14/\st<=100/\0<m/\m<=8/\ds=[.scr ns,.int ((st:Nat):Int),bW p,.int ((m:Nat):Int)]/\r=.own ((skN p ns st<|skT ns st m).map skD)
abbrev nl2:List Str:=["_law_script","_law_start","_law_size_here","_law_most","_law_stock_here","_law_k","_law_x","_law_step_here"]
theorem aBi(F:FI K mg "_law_stock" xQ)(zrange:mg "range"=none)(GD:bP P w K mg base "_law_draw" 1 2 aBW)(GT:bP P w K mg base "_law_step" 2 2 aGL):bP P w K mg base "_law_stock" 3 4 aGR:=by
 refine dL (N:=nl2) (ps:=["_law_script","_law_start","_law_size_here","_law_most"]) (k:=2) F λf nd cdv A outer s H E hr ds r hl c=> ?_
 obtain⟨ns,p,st,m,hp,hst,m0,m8,rfl,rfl⟩:=c;have hu:=uN hr 4;have hT:=aGB ns st m0;refine aE<|pE (ds:=[]) 4 (kM (ds:=[]) aN<|bU _) λl4=> ?_
 have eT:1+eE ns st%(m:Int)=((skT ns st m:Nat):Int):=by have r0:=cM (eE ns st) (show(m:Int)≠0 by omega);unfold skT;omega
 refine aE<|nL (ds:=gU 0<|skT ns st m) (λt=>[.val<|.scr ns,.val<|.int ((st:Nat):Int),.val<|bW p,.val<|.int ((m:Nat):Int),.own l4<|(skN p ns st t).map skD,.un,.un,.un]) (λt=>[.val<|.scr ns,.val<|.int ((st:Nat):Int),.val<|bW p,.val<|.int ((m:Nat):Int),.own l4<|(skN p ns st t).map skD,.val (.int<|0+(t:Int)),.un,.un]) (rY (n:=skT ns st m) rfl zrange (PEd.ic (iJ fR aP (cP eJ (pdc (ds:=[.scr ns,.int ((st:Nat):Int)]) GD hr (aB (pdv 0)<|aB (pdv 1) aN) ⟨ns,st,rfl,by omega,rfl⟩) (pdv 3)<|by omega)) eT)<|by omega) (Le.refl _) (λt d hd=> ?_) (λt d hd=> ?_) ?_
 ·obtain⟨_,rfl⟩:=fN hd;exact pgN 5
 ·obtain⟨ht,rfl⟩:=fN hd;rw[aEF];have ll:(skN p ns st t).length<=8:=aQ (aBT hp ns st t).1 (by omega);refine aE<|fM (d:=.int (eE ns<|st+1+t)) 6 (pdc (ds:=[.scr ns,.int ((st+1+t:Nat):Int)]) GD hr (aB (pdv 0)<|aB (PEd.ic (iJ fR (iJ fR (pdv 1) aP)<|pdv 5)<|by omega) aN) ⟨ns,st+1+t,rfl,by omega,rfl⟩) ?_;refine aE<|fM (d:=sqD (stE p<|eE ns (st+1+t) / 9)) 7 (pdc (ds:=[.int<|eE ns (st+1+t) / 9,bW p]) GT hr (aB (cP aAU (pdv 6) aP ⟨by decide,by decide⟩)<|aB (pdv 2) aN) ⟨_,p,hp,rfl,rfl⟩) ?_;have eN:skN p ns st (t+1)=if((skN p ns st t).map skD |>.map iW).any (λz=>deq z<|sqD (stE p<|eE ns (st+1+t) / 9)) then skN p ns st t else skN p ns st t++[(stE p<|eE ns (st+1+t) / 9,pcA (eE ns<|st+1+t))]:=rfl
  rw[eN];generalize skN p ns st t=L at *;generalize eE ns (st+1+t)=x;generalize stE p (x / 9)=q;have nd2:(["_law_one","_law_price"]:List Str).Nodup:=by decide+kernel
  have plc:plL ((L.map skD).map iW)=true/\lY ((L.map skD).map iW)<=1:=by rw[cJ];exact⟨mZ (λs:SK=>iW<|skD s) (λs=>uA s.1) _,kS (λs:SK=>iW<|skD s) 1 (λs=>jU<|zL s.1) _⟩
  have ef:((L.map skD).filter λ_=>true).map iW=(L.map skD).map iW:=by rw[dU.mpr λ_ _=>rfl]
  refine aS<|cX (k:= !((L.map skD).map iW).any λz=>deq z<|sqD q) (PTd.lend 4 rfl (wB rfl) (aFp (pdv 7) (PEd.val (PEd.cast (yC (ds:=L.map skD) (N:=["_law_one","_law_price"]) (M:=nl2) (cap:=[none,none]) (sc:=bE xQ) (Tb:=λd=>aOt d []) (λ_=>true) iW (gO<|pdv 4) (by rw[aD];omega) rfl (by decide+kernel) rfl (by decide+kernel) rfl (λcl C fp s H d hd=> ?_) (λd hd=> ?_) (λcl C fp s H d hd=>.inl ⟨rfl,rfl⟩) λcl C fp s H d hd _=> ?_)<|by rw[ef])) (uA q) plc.1<|by have:=plc.2;show(A.deeper<|Ak "_law_stock" (bE xQ) s.heap.objs.size f cdv).units+1+_<AN;omega)) (λh=> ?_) λh=> ?_
  ·obtain⟨s,_,rfl⟩:=bA.mp hd;exact nV (js:=[0,1]) rfl (dO (pgn 0)<|dO (pgn 1) kE) rfl rfl
  ·obtain⟨s,_,rfl⟩:=bA.mp hd;exact⟨.inl rfl,.inl rfl,trivial⟩
  ·obtain⟨s,_,rfl⟩:=bA.mp hd;exact(pdv 0)
  ·have h':((L.map skD).map iW).any (λz=>deq z<|sqD q)=false:=by simpa using h
   rw[h'];refine aS<|iN (d:=skD (q,pcA x)) 4 rfl (pv 4) (pdT (ds:=[sqD q,.int<|pcA x]) (aB (pdv 7)<|aB (iJ fR aP (cP eJ (pdv 6) aP<|by decide)) aN)) (by rw[aD];omega) ?_;refine⟨.inr rfl,.inr rfl,.inr rfl,.inr rfl,.inr ?_,.inl rfl,.inl rfl,.inl rfl,trivial⟩;simp only[aZ,if_false,aT];rfl
  ·have h':((L.map skD).map iW).any (λz=>deq z<|sqD q)=true:=by simpa using h
   rw[h'];exact cN ⟨.inr rfl,.inr rfl,.inr rfl,.inr rfl,.inr rfl,.inl rfl,.inl rfl,.inl rfl,trivial⟩
 ·rw[iO];exact aS<|aAT 4 rfl (pv 4) rfl
theorem nX{i:Int}(h0:0<=i)(h:i<1000):i.natAbs.log2<1920:=by
 by_cases z:i.natAbs=0
 ·rw[z];decide
 ·have:=(Nat.log2_lt z (k:=1920)).mpr<|aX (show i.natAbs<2^10 by omega) (jD (by decide)<|by decide);exact this
theorem qX{i:Int}(h0:0<=i)(h:i<64):Str.ofString (toString i)=bZ i.toNat:=by have:=aIk i.toNat (by omega);rw[eQ h0] at this;exact this
noncomputable def aGo(k:Nat)(i j n:Int):List D:=if k<6 then[.str<|nm k,.int i,.int j] else if k=6 then[.str<|nm k,.int i,.int n] else[.str<|nm k,.int i]
theorem aGI(k:Nat)(i j n:Int):lD k i j n=.tup (aGo k i j n):=by
 unfold lD aGo
 split
 ·rfl
 ·split<;>rfl
noncomputable def sqE(q:SQ):List D:=aGo q.1 q.2.1 q.2.2.1 q.2.2.2
theorem aES(q:SQ):sqD q=.tup (sqE q):=aGI _ _ _ _
theorem aId(q:SQ):2<=(sqE q).length/\(sqE q).length<=3:=by
 unfold sqE aGo
 split
 ·exact⟨by simp,by simp⟩
 ·split
  ·exact⟨by simp,by simp⟩
  ·exact⟨by simp,by simp⟩
noncomputable def aNa:D->D
 |.int i=>.str (Str.ofString<|toString i)
 |.str x=>.str x
 |_=>.non
theorem aCX{p:Int×Int}{q:SQ}(h:oE p q):∀d∈sqE q,(∃x,d=.str x)\/∃i:Int,d=.int i/\0<=i/\i<64:=λd hd=>by
 obtain⟨h1,h2,h3,h4,h5⟩:=sG p h.sz;have i0:=h.i0;have j0:=h.j0;have n0:=h.n0
 have m64:((2^p.1.toNat:Nat):Int)<=64:=by have:2^p.1.toNat<=2^6:=jD (by decide) (by omega);omega
 unfold sqE aGo at hd
 split at hd
 ·simp only[aG,bD,or_false] at hd
  rcases hd with rfl|rfl|rfl
  ·exact .inl ⟨_,rfl⟩
  ·exact .inr ⟨_,rfl,by omega,by omega⟩
  ·exact .inr ⟨_,rfl,by omega,by omega⟩
 ·split at hd
  ·simp only[aG,bD,or_false] at hd
   rcases hd with rfl|rfl|rfl
   ·exact .inl ⟨_,rfl⟩
   ·exact .inr ⟨_,rfl,by omega,by omega⟩
   ·exact .inr ⟨_,rfl,by omega,by omega⟩
  ·simp only[aG,bD,or_false] at hd
   rcases hd with rfl|rfl
   ·exact .inl ⟨_,rfl⟩
   ·exact .inr ⟨_,rfl,by omega,by omega⟩
theorem aJo{p:Int×Int}{q:SQ}(h:oE p q):(sqE q).map aNa=(stW q.1 q.2.1.toNat (jnQ q).toNat).map D.str:=by
 obtain⟨s1,s2,s3,s4⟩:=gK h;have i0:=h.i0;obtain⟨h1,h2,h3,h4,h5⟩:=sG p h.sz;have ei:=qX (i:=q.2.1) (by omega) (by omega);have ej:=qX (i:=jnQ q) s4 (by omega);unfold sqE aGo stW
 by_cases q1:q.1<6
 ·have e:jnQ q=q.2.2.1:=by unfold jnQ;rw[if_pos q1]
  rw[if_pos q1,if_pos<|by omega];show[D.str _,D.str _,D.str _]=[D.str _,D.str _,D.str _];rw[ei,e] ;rw[e] at ej;rw[ej]
 ·rw[if_neg q1]
  by_cases q2:q.1=6
  ·have e:jnQ q=q.2.2.2:=by unfold jnQ;rw[if_neg q1]
   rw[if_pos q2,if_pos<|by omega];show[D.str _,D.str _,D.str _]=[D.str _,D.str _,D.str _];rw[ei,e];rw[e] at ej;rw[ej]
  ·rw[if_neg q2,if_neg<|by omega];show[D.str _,D.str _]=[D.str _,D.str _];rw[ei]
def lT(p:Int×Int)(s:SK):Prop:=oE p s.1/\1<=s.2/\s.2<=9
theorem aCh{p:Int×Int}{s:SK}(h:lT p s):(lnS s).length<=40/\10∉(lnS s).cps.toList:=by obtain⟨s1,s2,s3,s4⟩:=gK h.1;have:=h.2.2;exact aNA s1 s2 s3<|by omega
theorem aHX{p:Int×Int}{s:SK}(hs:lT p s):∀y∈stW s.1.1 s.1.2.1.toNat (jnQ s.1).toNat++[("price":Str),bZ s.2.toNat],y.length<=20:=λy hy=>by
 obtain⟨s1,s2,s3,s4⟩:=gK hs.1;have p1:=hs.2.1;have p9:=hs.2.2
 rcases aW.mp hy with z|z
 ·unfold stW at z;have nk:∀k,k<10->(nm k).length<=20:=by decide+kernel
  have t1:=(nR s.1.2.1.toNat<|by omega).1.1;have t2:=(nR (jnQ s.1).toNat s3).1.1
  split at z
  ·simp only[aG,bD,or_false] at z
   rcases z with rfl|rfl|rfl
   ·exact nk _ s1
   ·omega
   ·omega
  ·simp only[aG,bD,or_false] at z
   rcases z with rfl|rfl
   ·exact nk _ s1
   ·omega
 ·simp only[aG,bD,or_false] at z
  rcases z with rfl|rfl
  ·decide+kernel
  ·have:=(nR s.2.toNat<|by omega).1.1;omega
noncomputable def kK:D->Bool
 |.scr _=>false
 |.any _=>false
 |_=>true
theorem tF{d:D}(h:kK d=true):kA d:=⟨λns e=>(by subst e;cases h),λG e=>(by subst e;cases h)⟩
noncomputable def okB:D->Bool
 |.tup (x::y::l)=>pl x&&(y::l).all kK
 |.scr _=>false
 |.any _=>false
 |_=>true
theorem aIg{d:D}(h:okB d=true):aHL d:=by
 refine⟨⟨λns e=> ?_,λG e=> ?_⟩,λx y rest e=> ?_⟩
 ·subst e;have h:false=true:=h;cases h
 ·subst e;have h:false=true:=h;cases h
 subst e;have h':(pl x&&(y::rest).all kK)=true:=h;rw[aR,bJ] at h';exact⟨h'.1,tF<|h'.2 y aM,λz hz=>tF (h'.2 z<|aH _ hz)⟩
theorem aBX:∀k,k<10->inD selfN (.str<|nm k)=decide (7<=k):=by decide+kernel
theorem aLX:∀k,k<10->inD anoN (.str<|nm k)=decide (k<6):=by decide+kernel
theorem aHh:∀k,k<10->deq (.str<|nm k) (.str "put")=decide (k=6):=by decide+kernel
theorem aAD{p:Int×Int}{k:Nat}{i j n:Int}(k10:k<10)(hi:0<=i/\i<p.2)(hj:0<=j/\j<p.2)(hn:0<=n/\n<((2^p.1.toNat:Nat):Int)):mH p (lD k i j n)=true:=by
 have bi:gS p.2 (.int i)=true:=by simp[gS,hi]
 have bj:gS p.2 (.int j)=true:=by simp[gS,hj]
 have bn:gS ((2^p.1.toNat:Nat):Int) (.int n)=true:=by show(decide (0<=n)&&decide (n<((2^p.1.toNat:Nat):Int)))=true;rw[decide_eq_true hn.1,decide_eq_true hn.2];rfl
 rw[aGI];unfold aGo
 by_cases q1:k<6
 ·rw[if_pos q1];show(gS p.2 (.int i)&&(if inD selfN (.str<|nm k) then false else if deq (.str<|nm k) (.str "put") then gS _ (.int j) else(inD anoN (.str<|nm k)&&gS p.2 (.int j))))=true;rw[bi,bj,aBX k k10,aLX k k10,aHh k k10,decide_eq_false<|by omega,decide_eq_false<|by omega,decide_eq_true q1];rfl
 ·rw[if_neg q1]
  by_cases q2:k=6
  ·rw[if_pos q2];show(gS p.2 (.int i)&&(if inD selfN (.str<|nm k) then false else if deq (.str<|nm k) (.str "put") then gS _ (.int n) else(inD anoN (.str<|nm k)&&gS p.2 (.int n))))=true;rw[bi,bn,aBX k k10,aHh k k10,decide_eq_false<|by omega,decide_eq_true q2];rfl
  ·rw[if_neg q2];show(gS p.2 (.int i)&&(if inD selfN (.str<|nm k) then true else false))=true;rw[bi,aBX k k10,decide_eq_true<|by omega];rfl
theorem aJn(k:Nat)(i j n:Int):okB (lD k i j n)=true:=by
 unfold lD
 split
 ·rfl
 ·split<;>rfl
noncomputable def wK:D->Bool
 |.tup [x,y]=>okB x&&kK y
 |d=>kK d
theorem aLV{d:D}(h:wK d=true):aMY d:=by
 refine⟨⟨λns e=> ?_,λG e=> ?_⟩,λx y e=> ?_⟩
 ·subst e;cases h
 ·subst e;cases h
 ·subst e;have h:(okB x&&kK y)=true:=h;rw[aR] at h;exact⟨aIg h.1,tF h.2⟩
theorem aIf{p:Int×Int}{s:SK}(h:oE p s.1)(h1:1<=s.2)(h9:s.2<=9):jS p (skD s)=true:=by show(mH p (lD _ _ _ _)&&(decide (1<=s.2)&&decide (s.2<=9)))=true;rw[aAD h.k10 h.i0 h.j0 h.n0,decide_eq_true h1,decide_eq_true h9];rfl
theorem aJm(s:SK):wK (skD s)=true:=by show(okB (lD _ _ _ _)&&true)=true;rw[aJn];rfl
structure Stk(p:Int×Int)(L:List SK):Prop where
 l0:0<L.length
 l8:L.length<=8
 ok:∀s∈L,oE p s.1/\1<=s.2/\s.2<=9
 ap:(L.map λs=>sqD s.1).Pairwise (λa b=>deq a b=false)
theorem aKW{p:Int×Int}(hp:p∈sizes14)(ns:List Int)(st:Nat):Stk p (skN p ns st<|skT ns st 8):=by obtain⟨a,b,c,e⟩:=aBT hp ns st<|skT ns st 8;have t:=aGB ns st (m:=8) (by decide);exact⟨b<|by omega,by omega,c,e⟩
theorem aHj{p:Int×Int}{s:SK}(h:oE p s.1):sqD s.1=.tup ((pR<|skD s).map kD):=aDd (p:=p)<|aAD h.k10 h.i0 h.j0 h.n0
theorem aLd{p:Int×Int}{L:List SK}(S:Stk p L):((L.map skD).map pR).Nodup:=by
 rw[cJ,gF,gA];refine List.Pairwise.imp_of_mem ?_<|gA.mp S.ap;intro a b ha hb hab hc
 have e:sqD a.1=sqD b.1:=by rw[aHj (S.ok a ha).1,aHj (S.ok b hb).1];have hc:pR (skD a)=pR (skD b):=hc;rw[hc]
 rw[e,qT _<|uA b.1] at hab;cases hab
theorem aIM{p:Int×Int}{L:List SK}(S:Stk p L):sK p (.lst<|L.map skD)=true:=by
 show((decide (1<=(L.map skD).length)&&decide ((L.map skD).length<=8))&&((L.map skD).all (jS p)&&decide (((L.map skD).map pR).Nodup)))=true;rw[decide_eq_true<|aLd S,aD,decide_eq_true (show 1<=L.length from S.l0),decide_eq_true S.l8]
 have:(L.map skD).all (jS p)=true:=bJ.mpr λd hd=>by obtain⟨s,hs,rfl⟩:=bA.mp hd;obtain⟨a,b,c⟩:=S.ok s hs;exact aIf a b c
 rw[this];rfl
theorem aLp{es:List D}(hl:es.length≤900)(h:es.all wK=true):aMT (.lst es):=⟨⟨fun ns e=>(by cases e),fun G e=>(by cases e)⟩,fun es' e=>by
 cases e
 exact⟨hl,λd hd=>aLV (bJ.mp h d hd)⟩⟩
theorem aLC(L:List SK):(L.map skD).all wK=true:=bJ.mpr λd hd=>by obtain⟨s,hs,rfl⟩:=bA.mp hd;exact aJm s
theorem aCd:∀p∈sizes14,sL (bW p)=true/\p.1.natAbs<100/\p.2.natAbs<100:=by decide+kernel
theorem aCK{p:Int×Int}(hp:p∈sizes14):aMU (bW p):=by
 obtain⟨_,h1,h2⟩:=aCd p hp;refine⟨⟨λns e=>(by cases e),λG e=>(by cases e)⟩,λds e x hx=> ?_⟩;have e:ds=[.int p.1,.int p.2]:=by cases e;rfl
 subst e;have b:(100:Nat)<=2^250:=by decide
 simp only[aG,bD,or_false] at hx
 rcases hx with rfl|rfl
 ·exact⟨⟨λns e=>(by cases e),λG e=>(by cases e)⟩,λi e=>by cases e;exact aX h1 b⟩
 ·exact⟨⟨λns e=>(by cases e),λG e=>(by cases e)⟩,λi e=>by cases e;exact aX h2 b⟩
noncomputable def unT(x:Str):Int:=match x.cps.toList with
 |[a]=>(a:Int)-48
 |[a,b]=>((a:Int)-48)*10+((b:Int)-48)
 |_=>0
theorem yI{n:Nat}(hn:n<64):unT (bZ n)=(n:Int):=by
 unfold bZ
 by_cases h:n<10
 ·rw[if_pos h];show((48+n:Nat):Int)-48=_;omega
 ·rw[if_neg h];show(((48+n / 10:Nat):Int)-48)*10+(((48+n%10:Nat):Int)-48)=_;omega
noncomputable def rdD:D->D
 |.str x=>.int<|unT x
 |_=>.non
theorem aFa{k i j:Nat}(hi:i<64)(hj:j<64):∀d∈((stW k i j).drop 1).map D.str,∃n,n<64/\d=.str (bZ n):=λd hd=>by
 obtain⟨x,hx,rfl⟩:=bA.mp hd;unfold stW at hx
 split at hx
 ·simp only[pD,dM,aG,bD,or_false] at hx
  rcases hx with rfl|rfl
  ·exact⟨i,hi,rfl⟩
  ·exact⟨j,hj,rfl⟩
 ·simp only[pD,dM,aG,bD,or_false] at hx;subst hx;exact⟨i,hi,rfl⟩
theorem aFF{p:Int×Int}{q:SQ}(h:oE p q):.str (nm q.1)::(((stW q.1 q.2.1.toNat (jnQ q).toNat).drop 1).map D.str).map rdD=sqE q:=by
 obtain⟨s1,s2,s3,s4⟩:=gK h;have i0:=h.i0;have ei:unT (bZ q.2.1.toNat)=q.2.1:=by rw[yI<|by omega];omega
 have ej:unT (bZ (jnQ q).toNat)=jnQ q:=by rw[yI s3];omega
 unfold sqE aGo stW
 by_cases q1:q.1<6
 ·have e:jnQ q=q.2.2.1:=by unfold jnQ;rw[if_pos q1]
  rw[if_pos q1,if_pos<|by omega];show[D.str _,D.int _,D.int _]=_;rw[ei,ej,e]
 ·rw[if_neg q1]
  by_cases q2:q.1=6
  ·have e:jnQ q=q.2.2.2:=by unfold jnQ;rw[if_neg q1]
   rw[if_pos q2,if_pos<|by omega];show[D.str _,D.int _,D.int _]=_;rw[ei,ej,e]
  ·rw[if_neg q2,if_neg<|by omega];show[D.str _,D.int _]=_;rw[ei]
theorem aFC{p:Int×Int}(hp:p∈sizes14){L:List SK}(S:Stk p L):Txt.split (txT p L) nlT=szT p::L.map lnS:=by
 refine oX 10 (by simp) λq hq=> ?_
 rcases aG.mp hq with rfl|z
 ·have:=(uB p hp).2.2.1;simpa using this
 ·obtain⟨s,hs,rfl⟩:=bA.mp z;exact(aCh<|S.ok s hs).2
theorem aLB{p:Int×Int}(hp:p∈sizes14){L:List SK}(S:Stk p L):(txT p L).length<=1000:=by
 have wb:∀y∈szT p::L.map lnS,y.length<=40:=λy hy=>by
  rcases aG.mp hy with rfl|z
  ·exact(uB p hp).2.1
  ·obtain⟨s,hs,rfl⟩:=bA.mp z;exact(aCh<|S.ok s hs).1
 have h:=aFX (sep:=nlT) wb;rw[bM,aD] at h;have:nlT.length=1:=rfl;rw[this] at h;have:=S.l8;show(Txt.join nlT _).length<=_;omega
theorem qN:∀n,n<100->((bZ n).length<=2/\1<=(bZ n).length)/\(!(bZ n).cps.toList.contains 32)=true:=by decide+kernel
theorem qV{n:Nat}(hn:n<100):((bZ n).cps.toList.all λc=>decide (48<=c)&&decide (c<58))=true/\(∃c,L2.atI (bZ n).cps.toList 0=some c/\(c=48↔n=0)):=by
 unfold bZ
 by_cases h:n<10
 ·rw[if_pos h];refine⟨by simp;omega,48+n,rfl,by omega⟩
 ·rw[if_neg h];refine⟨by simp;omega,48+n / 10,rfl,by omega⟩
theorem aDx{n:Nat}(hn:n<100):unT (bZ n)=(n:Int):=by
 unfold bZ
 by_cases h:n<10
 ·rw[if_pos h];show((48+n:Nat):Int)-48=_;omega
 ·rw[if_neg h];show(((48+n / 10:Nat):Int)-48)*10+(((48+n%10:Nat):Int)-48)=_;omega
theorem aFt{n m:Nat}(hn:n<100)(hm:m<100)(h:bZ n=bZ m):n=m:=by have h1:=aDx hn;rw[h,aDx hm] at h1;omega
noncomputable def fgQ(x:Str):Option Nat:=(cI 100).find? λn=>decide<|x=bZ n
theorem kB{x:Str}{n:Nat}(h:fgQ x=some n):n<100/\x=bZ n:=by have h1:=vN h;have h2:=kQ h;exact⟨cE.mp h2,by simpa using h1⟩
theorem aHN{x:Str}(h:fgQ x=none){n:Nat}(hn:n<100):x≠bZ n:=λe=>by have:=kH.mp h n<|cE.mpr hn;simp[e] at this
theorem aGY{n:Nat}(h:n<100):fgQ (bZ n)=some n:=by
 cases e:fgQ (bZ n) with
 |none=>exact absurd rfl<|aHN e h
 |some m=>obtain⟨h1,h2⟩:=kB e;rw[aFt h h1 h2]
theorem aCN{x:Str}(h1:1<=x.length)(h2:x.length<=2)(hd:(x.cps.toList.all λc=>decide (48<=c)&&decide (c<58))=true)(hz:∀c,L2.atI x.cps.toList 0=some c->c=48->x=bZ 0):∃n,n<100/\x=bZ n:=by
 obtain⟨⟨l⟩⟩:=x;have h1:1<=l.length:=h1;have h2:l.length<=2:=h2;have hd:(l.all λc=>decide (48<=c)&&decide (c<58))=true:=hd
 match l,h1,h2 with
 |[a],_,_=>
  have ha:48<=a/\a<58:=by simpa using hd
  refine⟨a-48,by omega, ?_⟩;unfold bZ;rw[if_pos<|by omega,show 48+(a-48)=a by omega]
 |[a,b],_,_=>
  have hab:(48<=a/\a<58)/\(48<=b/\b<58):=by simpa using hd
  have na:a≠48:=λe=>by have:=hz a rfl e;have:=congrArg (λx:Str=>x.cps.size) this;exact absurd this (show ¬ ((2:Nat)=1) by decide)
  refine⟨(a-48)*10+(b-48),by omega, ?_⟩;unfold bZ;rw[if_neg<|by omega,show 48+((a-48)*10+(b-48)) / 10=a by omega,show 48+((a-48)*10+(b-48))%10=b by omega]
noncomputable def rnD(x:Str):D:=match fgQ x with
 |some n=>.int (n:Int)
 |none=>.non
noncomputable def fgI(x:Str):Int:=match fgQ x with
 |some n=>(n:Int)
 |none=> -1
theorem tM{n:Nat}(h:n<100):rnD (bZ n)=.int (n:Int):=by unfold rnD;rw[aGY h]
theorem nN{n:Nat}(h:n<100):fgI (bZ n)=(n:Int):=by unfold fgI;rw[aGY h]
theorem oY{x:Str}{i:Int}(h:rnD x=.int i):∃n:Nat,n<100/\x=bZ n/\i=(n:Int):=by
 unfold rnD at h
 split at h
 ·rename_i n e;obtain⟨a,b⟩:=kB e;exact⟨n,a,b,by cases h;rfl⟩
 ·cases h
theorem nY{x:Str}(h:0<=fgI x):∃n:Nat,n<100/\x=bZ n/\fgI x=(n:Int):=by
 unfold fgI at h ⊢
 split at h
 ·rename_i n e;obtain⟨a,b⟩:=kB e;exact⟨n,a,b,rfl⟩
 ·omega
theorem aHa(x:Str): -1<=fgI x/\fgI x<100:=by
 unfold fgI
 split
 ·rename_i n e;have:=(kB e).1;omega
 ·omega
theorem aHG(x:Str):kK (rnD x)=true:=by unfold rnD;split<;>rfl
def Asc(x:Str)(n:Nat):Prop:=(∀c∈x.cps.toList,c<128)/\x.length<=n
theorem Asc.all{x:Str}{n:Nat}(h:Asc x n):x.cps.all (·<128)=true:=by rw[<-sO];exact bJ.mpr λc hc=>by simpa using h.1 c hc
theorem Asc.mono{x:Str}{n m:Nat}(h:Asc x n)(q:n<=m):Asc x m:=⟨h.1,aQ h.2 q⟩
theorem aAW(c:Nat):∀ {xs:List Str}{p:Str},p∈xs->p.length<=(Str.join ⟨#[c]⟩ xs).length/\∀a∈p.cps.toList,a∈(Str.join ⟨#[c]⟩ xs).cps.toList
 |[x],p,h=>by rw[bX.mp h];exact⟨aO _,λa ha=>ha⟩
 |x::y::r,p,h=>by
  have e:(Str.join ⟨#[c]⟩ (x::y::r)).length=x.length+1+(Str.join ⟨#[c]⟩ (y::r)).length:=by have:=congrArg lH<|gM c x y r;simp only[aU,bM,cY] at this;show(Str.join ⟨#[c]⟩ (x::y::r)).cps.size=x.cps.size+1+(Str.join ⟨#[c]⟩ (y::r)).cps.size;omega
  rw[e,gM]
  rcases aG.mp h with rfl|h
  ·exact⟨by omega,λa ha=>bH _ ha⟩
  ·obtain⟨a,b⟩:=aAW c h;exact⟨by omega,λq hq=>aJ _ (aH _<|b q hq)⟩
theorem aAu(c:Nat):∀xs:List Str,xs.length<=(Str.join ⟨#[c]⟩ xs).length+1
 |[]=>bU _
 |[x]=>aMi _ _
 |x::y::r=>by have e:=congrArg lH<|gM c x y r;simp only[aU,bM,cY] at e;have:=aAu c (y::r);show r.length+1+1<=(Str.join ⟨#[c]⟩ (x::y::r)).cps.size+1;have h2:(y::r).length<=(Str.join ⟨#[c]⟩ (y::r)).cps.size+1:=this;simp only[bM] at h2;omega
theorem iP{x p:Str}{c n:Nat}(h:Asc x n)(hp:p∈Txt.split x ⟨#[c]⟩):Asc p n:=by obtain⟨a,b⟩:=aAW c hp;rw[StrLaws.join_split] at a b;exact⟨λq hq=>h.1 q<|b q hq,aQ a h.2⟩
theorem iQ{x:Str}{c n:Nat}(h:Asc x n):(Txt.split x ⟨#[c]⟩).length<=n+1:=by have:=aAu c<|Txt.split x ⟨#[c]⟩;rw[StrLaws.join_split] at this;have:=h.2;omega
theorem uP(x y:Str):(Txt.partition x y=(x,Str.empty,Str.empty))\/∃a b,x=a++y++b/\Txt.partition x y=(a,y,b):=by
 unfold Txt.partition
 rcases StrLaws.occ_head x y 1 (aO 1) with⟨h0,hn⟩|⟨i,r,h0,hi,hn⟩
 ·rw[h0];exact .inl rfl
 ·rw[h0];refine .inr ⟨_,_, ?_,rfl⟩;rw[StrLaws.sub_cat x y (bU _) hi];refine Str.ext'<|fH.mp ?_;rw[StrLaws.strSub_toList,dM,aEE];exact(eR<|by simp[Str.length]).symm
theorem aDz{a b:Str}{n:Nat}(h:Asc (a++b) n):Asc a n/\Asc b n:=by
 have e:(a++b).cps.toList=a.cps.toList++b.cps.toList:=by simp[Str.cps_append]
 have l:(a++b).length=a.length+b.length:=Str.length_append a b;obtain⟨h1,h2⟩:=h;rw[e] at h1;rw[l] at h2;exact⟨⟨λc hc=>h1 c<|bH _ hc,by omega⟩,⟨λc hc=>h1 c<|aJ _ hc,by omega⟩⟩
theorem hV{a b:Str}{n m:Nat}(h1:Asc a n)(h2:Asc b m):Asc (a++b) (n+m):=by
 refine⟨λc hc=> ?_, ?_⟩
 ·have e:(a++b).cps.toList=a.cps.toList++b.cps.toList:=by simp[Str.cps_append]
  rw[e] at hc
  rcases aW.mp hc with q|q
  ·exact h1.1 c q
  ·exact h2.1 c q
 ·rw[Str.length_append];exact Nat.add_le_add h1.2 h2.2
theorem aFE{x y:Str}{n:Nat}(h:Asc x n):Asc (Txt.partition x y).1 n/\Asc (Txt.partition x y).2.2 n:=by
 rcases uP x y with e|⟨a,b,e1,e2⟩
 ·rw[e];exact⟨h,⟨λc hc=>by simp[Str.empty] at hc,bU _⟩⟩
 ·rw[e2];rw[e1] at h;obtain⟨h1,h2⟩:=aDz h;exact⟨(aDz h1).1,h2⟩
theorem aCy:∀c,c<128->(!(Builtin.Str.occurrences figT ⟨#[c]⟩ 0 figT.length 1).isEmpty)=(decide (48<=c)&&decide (c<58)):=by decide+kernel
noncomputable def sgB:D->Bool
 |.str ⟨⟨[c]⟩⟩=>decide (48<=c)&&decide (c<58)
 |_=>false
theorem at0{x:Str}(h:1<=x.length):∃c,L2.atI x.cps.toList 0=some c:=by
 obtain⟨⟨l⟩⟩:=x;cases l with
 |nil=>exact absurd h<|by decide
 |cons a l=>exact⟨a,by simp[L2.atI,L2.ixN]⟩
theorem c48{c:Nat}:decide (V.str (⟨#[c]⟩:Str)=V.str ("0":Str))=decide (c=48):=by
 rw[decide_eq_decide];have e2:(("0":Str)).cps= #[48]:=by decide+kernel
 constructor
 ·intro h;have e:(⟨#[c]⟩:Str)=("0":Str):=V.str.inj h;rw[<-e] at e2;simpa using e2
 ·rintro rfl;exact congrArg V.str<|Str.ext' e2.symm
theorem z48:("0":Str)=bZ 0:=by decide+kernel
def aBR:List D->R->Prop:=λds r=>∃x,ds=[.str x]/\Asc x 10000/\r=.val (rnD x)
theorem aGe(F:FI K mg "read_number" aBY)(zlen:mg "len"=none)(zall:mg "all"=none)(zint:mg "int"=none)(figs:∃t,mg "FIGURES"=some (.str figT t))(mfig:∃t,mg "MOST_FIGURES"=some (.int 2 t)):bP P w K mg base "read_number" 1 1 aBR:=by
 have nd2:(["sign"]:List Str).Nodup:=by decide+kernel
 refine dL (N:=["word"]) (ps:=["word"]) (k:=0) F λf nd cdv A outer s H E hr ds r hl c=> ?_
 obtain⟨x,rfl,hx,rfl⟩:=c;obtain⟨tf,hf⟩:=figs;obtain⟨tm,hmf⟩:=mfig;have asc:=hx.all;have l9:x.length<=100000:=aQ hx.2<|by decide
 have no:∀ {b:Prop},(∀n,n<100->x=bZ n->b)->¬ b->rnD x=.non:=λh nb=>by
  unfold rnD;cases e:fgQ x with
  |none=>rfl
  |some n=>exact absurd (h n (kB e).1 (kB e).2) nb
 refine aE<|cX (k:= !(decide ((1:Int)<=((x.length:Nat):Int))&&decide (((x.length:Nat):Int)<=2))) (dP (oP mV mV aP (qM rfl zlen (pdv 0) l9)<|pU (i:=2) rfl hmf ⟨tm,rfl⟩)) (λh=>aS<|bY eV trivial ?_) λh=>cN ?_
 ·rw [no (b:=1≤x.length∧x.length≤2) (fun n hn e=>by rw [e]; have:=(qN n hn).1; omega) fun z=>by
   have e1:decide ((1:Int)<=((x.length:Nat):Int))=true:=decide_eq_true (by omega);have e2:decide (((x.length:Nat):Int)<=2)=true:=decide_eq_true (by omega);rw[e1,e2] at h
   cases h]
 have h12:1<=x.length/\x.length<=2:=by
  have h':(decide ((1:Int)<=((x.length:Nat):Int))&&decide (((x.length:Nat):Int)<=2))=true:=by
   cases q:(decide ((1:Int)<=((x.length:Nat):Int))&&decide (((x.length:Nat):Int)<=2)) with
   |true=>rfl
   |false=>rw[q] at h;cases h
  simp only[aR,decide_eq_true_eq] at h';omega
 have eall:((lG x).map sgB).all id=(x.cps.toList.all λc=>decide (48<=c)&&decide (c<58)):=by unfold lG;rw[cJ,aOc];rfl
 refine aE<|cX (k:= !(((lG x).map sgB).all id)) (dP<|dX (aCm (bs:=(lG x).map sgB) rfl zall<|PEd.bor (PEd.val<|PEd.cast (pdC (ds:=lG x) (N:=["sign"]) (M:=["word"]) (cap:=[none]) (sc:=bE aBY) (Tb:=λd=>[.val d]) (λ_=>true) (λd=>.bl<|sgB d) (aCQ (pdv 0) asc) (by unfold lG;rw[aD,cY];exact aQ h12.2<|by decide) (λcl C fp s H d hd=>.inl ⟨rfl,rfl⟩) λcl C fp s H d hd _=> ?_) ?_))) (λh=>aS<|bY eV trivial ?_) λh=>cN ?_
 ·obtain⟨c,hc,rfl⟩:=bA.mp hd;exact PEd.cast (aKM (pdv 0)<|aFx (z:=figT) rfl hf ⟨tf,rfl⟩) (by rw[aCy c<|hx.1 c hc];rfl)
 ·rw[dU.mpr λ_ _=>rfl,cJ];rfl
 ·rw[eall] at h
  rw [no (b:=(x.cps.toList.all fun c=>decide (48≤c) && decide (c<58))=true) (fun n hn e=>by rw [e]; exact (qV hn).1) fun z=>by
   rw[z] at h
   cases h]
 rw[eall] at h
 have hd:(x.cps.toList.all λc=>decide (48<=c)&&decide (c<58))=true:=by
  cases q:(x.cps.toList.all λc=>decide (48<=c)&&decide (c<58)) with
  |true=>rfl
  |false=>rw[q] at h;cases h
 obtain⟨c0,hc0⟩:=at0 h12.1;refine aE<|cX (k:=decide (c0=48)&&!decide (x=bZ 0)) (PWd.pt (aCo (k:=decide<|c0=48) (j:= !decide (x=bZ 0)) (iA (aCc (pdv 0) aP l9 hc0 λ_ _=>rfl) bO rfl rfl rfl c48) λ_=>aAr<|jZ (pdv 0) bO rfl rfl rfl ?_)) (λh=>aS<|bY eV trivial ?_) λh=>cN ?_
 ·rw[z48];have:decide (V.str x=V.str (bZ 0))=decide (x=bZ 0):=decide_eq_decide.mpr ⟨V.str.inj,λh=>by rw[h]⟩;rw[this]
 ·simp only[aR,decide_eq_true_eq,gB,decide_eq_false_iff_not] at h
  rw [no (b:=False) (fun n hn e=>by
   obtain⟨_,c,h1,h2⟩:=qV hn;rw[e] at hc0;rw[h1] at hc0;cases hc0
   exact h.2 (by rw[e,h2.mp h.1])) id]
 obtain⟨n,hn,e⟩:=aCN h12.1 h12.2 hd λc hc e=>by
  rw[hc0] at hc;cases hc;rw[decide_eq_true e] at h;have h:decide (x=bZ 0)=true:=by simpa using h
  exact of_decide_eq_true h
 subst e;rw[tM hn];exact aS (kW<|aCM rfl zint (pdv 0) hn)
theorem aIV:∀a,a<7->∀b,b<7->(!(decide (1<=a)&&(decide (1<=b)&&decide (a*b<=6)))||sizes14.contains (((a:Nat):Int),((b:Nat):Int)))=true:=by decide+kernel
theorem aKq(a:Nat)(h1:a<7)(b:Nat)(h2:b<7)(h3:1<=a)(h4:1<=b)(h5:a*b<=6):(((a:Nat):Int),((b:Nat):Int))∈sizes14:=by have:=aIV a h1 b h2;rw[decide_eq_true h3,decide_eq_true h4,decide_eq_true h5] at this;exact aBD.mp (by simpa using this)
theorem aLr:∀p∈sizes14,∀q∈sizes14,szT p=szT q->p=q:=by decide+kernel
noncomputable def szF(x:Str):Option (Int×Int):=sizes14.find? λp=>decide<|x=szT p
theorem jL{x:Str}{p:Int×Int}(h:szF x=some p):p∈sizes14/\x=szT p:=
 ⟨kQ h,by simpa using vN h⟩
theorem aFB{x:Str}(h:szF x=none){p:Int×Int}(hp:p∈sizes14):x≠szT p:=λe=>by have:=kH.mp h p hp;simp[e] at this
theorem aHe{p:Int×Int}(hp:p∈sizes14):szF (szT p)=some p:=by
 cases e:szF (szT p) with
 |none=>exact absurd rfl<|aFB e hp
 |some q=>obtain⟨h1,h2⟩:=jL e;rw[aLr p hp q h1 h2]
theorem aDe{x w1 w3:Str}(hW:Txt.split x spT=[("bits":Str),w1,("boxes":Str),w3]){a b:Nat}(h1:w1=bZ a)(h3:w3=bZ b)(ha:1<=a)(hb:1<=b)(hab:a*b<=6):szF x=some ((a:Int),(b:Int)):=by
 have a7:a<7:=vC λz=>absurd (iR z hb)<|by omega
 have b7:b<7:=vC λz=>absurd (iR ha z)<|by omega
 have m:=aKq a a7 b b7 ha hb hab;have e:=StrLaws.join_split x spT;rw[hW,h1,h3] at e;have e2:=StrLaws.join_split (szT ((a:Int),(b:Int))) spT;rw[(uB _ m).1] at e2;rw[<-e];have:szT ((a:Int),(b:Int))=Str.join spT [("bits":Str),bZ a,("boxes":Str),bZ b]:=e2.symm;rw[<-this];exact aHe m
noncomputable def szW(W:List Str):Bool:=decide (W.length=4)&&(decide (W[0]? =some ("bits":Str))&&decide (W[2]? =some ("boxes":Str)))
theorem aBJ{W:List Str}(h:szW W=true):∃w1 w3,W=[("bits":Str),w1,("boxes":Str),w3]:=by
 unfold szW at h;simp only[aR,decide_eq_true_eq] at h;obtain⟨h1,h2,h3⟩:=h
 match W,h1 with
 |[a,b,c,d],_=>refine⟨b,d, ?_⟩;have h2:some a=some ("bits":Str):=h2;have h3:some c=some ("boxes":Str):=h3;cases h2;cases h3;rfl
theorem aJS{x:Str}(h:szW (Txt.split x spT)=false):szF x=none:=by
 cases e:szF x with
 |none=>rfl
 |some p=>obtain⟨h1,h2⟩:=jL e;rw[h2,(uB p h1).1] at h;exact absurd h (by simp[szW])
noncomputable def rzQ(x:Str):D:=if szW (Txt.split x spT)=true then .tup [rnD<|(Txt.split x spT).getD 1 Str.empty,rnD<|(Txt.split x spT).getD 3 Str.empty] else .non
theorem aCP{x:Str}{p:Int×Int}(h:szF x=some p):rzQ x=bW p:=by obtain⟨h1,h2⟩:=jL h;obtain⟨z1,z2,z3,z4,z5⟩:=sG p h1;unfold rzQ;rw[h2,(uB p h1).1,if_pos<|by simp[szW]];show D.tup [rnD<|bZ p.1.toNat,rnD<|bZ p.2.toNat]=D.tup [.int p.1,.int p.2];rw[tM<|by omega,tM<|by omega,eQ<|by omega,eQ<|by omega]
theorem aIO{x:Str}(h:szF x=none):sL (rzQ x)=false:=by
 unfold rzQ
 split
 ·rename_i hW;obtain⟨w1,w3,e⟩:=aBJ hW;rw[e];show sL (.tup [rnD w1,rnD w3])=false;cases q:sL (.tup [rnD w1,rnD w3]) with
  |false=>rfl
  |true=>
   unfold sL at q
   split at q
   ·rename_i a b e3;injection e3 with e3
    injection e3 with ea e3
    injection e3 with eb _
    obtain⟨n,hn,e1,rfl⟩:=oY ea;obtain⟨m,hm,e2,rfl⟩:=oY eb;simp only[aR,decide_eq_true_eq] at q;have q3:((n*m:Nat):Int)<=6:=by push_cast;exact q.2.2
    rw[aDe e e1 e2 (by omega) (by omega)<|by omega] at h;cases h
   ·cases q
 ·rfl
theorem aGa(x:Str):aGX (rnD x):=by refine⟨tF<|aHG x,λi e=> ?_⟩;obtain⟨n,hn,_,rfl⟩:=oY e;exact aX (show((n:Nat):Int).natAbs<100 by omega)<|by decide
theorem aNr(x:Str):aMU (rzQ x):=by
 unfold rzQ
 split
 ·refine⟨⟨λns e=>(by cases e),λG e=>(by cases e)⟩,λds e x hx=> ?_⟩;cases e;simp only[aG,bD,or_false] at hx
  rcases hx with rfl|rfl<;>exact aGa _
 ·exact⟨⟨λns e=>(by cases e),λG e=>(by cases e)⟩,λds e=>by cases e⟩
theorem oO(a b:Str):decide (V.str a=V.str b)=decide (a=b):=decide_eq_decide.mpr ⟨V.str.inj,λh=>by rw[h]⟩
def yE:List D->R->Prop:=λds r=>∃x,ds=[.str x]/\Asc x 9000/\r=.val (rzQ x)
theorem aDP(F:FI K mg "read_size" aDs)(zlen:mg "len"=none)(GN:bP P w K mg base "read_number" 1 1 aBR):bP P w K mg base "read_size" 2 1 yE:=by
 refine dL (N:=["line","words"]) (ps:=["line"]) (k:=1) F λf nd cdv A outer s H E hr ds r hl c=> ?_
 obtain⟨x,rfl,hx,rfl⟩:=c;have cnt:=iQ (c:=32) hx;have sa:∀p∈Txt.split x spT,Asc p 10000:=λp hp=>(iP hx hp).mono<|by decide
 unfold rzQ;refine aE<|fM (d:=.lst<|(Txt.split x spT).map D.str) 1 (PEd.val<|hJ (y:=spT) (pdv 0) bO (by decide) (aQ hx.2<|by decide) (aQ cnt<|by decide)) ?_;have cnt':(Txt.split x spT).length<=9001:=cnt;generalize Txt.split x spT=W at *
 by_cases h4:W.length=4
 ·obtain⟨w0,w1,w2,w3,rfl⟩:∃a b c d,W=[a,b,c,d]:=by
   match W,h4 with
   |[a,b,c,d],_=>exact⟨a,b,c,d,rfl⟩
  refine aE<|cX (k:= !(decide (w0=("bits":Str))&&decide (w2=("boxes":Str)))) (PWd.pt<|PWd.cast (dN (k:=false) (j:= !(decide (w0=("bits":Str))&&decide (w2=("boxes":Str)))) (PTd.cast (iD (dR rfl zlen (PEd.bor<|pdv 1)) aP) rfl) λ_=>PWd.cast (dN (k:= !decide (w0=("bits":Str))) (j:= !decide (w2=("boxes":Str))) (jZ (d1:=.str w0) (eU (n:=0) (PEd.bor<|pdv 1) aP rfl λ_ _=>rfl) bO rfl rfl rfl<|by rw[oO]) λ_=>fU (jZ (d1:=.str w2) (eU (n:=2) (PEd.bor<|pdv 1) aP rfl λ_ _=>rfl) bO rfl rfl rfl<|by rw[oO])) ?_) ?_) (λh=>aS<|bY eV trivial ?_) λh=>cN ?_
  ·cases decide (w0=("bits":Str))<;>cases decide (w2=("boxes":Str))<;>rfl
  ·cases decide (w0=("bits":Str))<;>cases decide (w2=("boxes":Str))<;>rfl
  ·rw[if_neg λz=> ?_];obtain⟨_,_,e⟩:=aBJ z;cases e;exact absurd h<|by simp
  ·have e:w0=("bits":Str)/\w2=("boxes":Str):=by cases q0:decide (w0=("bits":Str))<;>cases q2:decide (w2=("boxes":Str))<;>rw[q0,q2] at h<;>first|exact⟨of_decide_eq_true q0,of_decide_eq_true q2⟩|cases h
   obtain⟨rfl,rfl⟩:=e;rw[if_pos<|by simp[szW]];exact aS (kW<|pdT (ds:=[rnD w1,rnD w3]) (aB (pdc (ds:=[.str w1]) (r:=.val<|rnD w1) GN hr (aB (eU (n:=1) (PEd.bor<|pdv 1) aP rfl λ_ _=>rfl) aN) ⟨w1,rfl,sa w1<|by simp,rfl⟩)<|aB (pdc (ds:=[.str w3]) (r:=.val<|rnD w3) GN hr (aB (eU (n:=3) (PEd.bor<|pdv 1) aP rfl λ_ _=>rfl) aN) ⟨w3,rfl,sa w3<|by simp,rfl⟩) aN))
 ·refine aE (eG (k:=true) (PWd.pt<|dN (k:=true) (j:=true) (PTd.cast (iD (dR rfl zlen (PEd.bor<|pdv 1)) aP) ?_) λz=>nomatch z) rfl (aS<|bY eV trivial ?_))
  ·rw[aD];have:¬ ((W.length:Nat):Int)=4:=by omega
   simp[this]
  ·rw[if_neg λz=> ?_];obtain⟨_,_,e⟩:=aBJ z;rw[e] at h4;exact h4 rfl
theorem aNS{w:Str}{n:Nat}(h:n<64)(e:w=bZ n):rnD w=rdD (.str w):=by subst e;rw[tM<|by omega];show _=D.int (unT<|bZ n);rw[yI h]
noncomputable def rpQ(x:Str):D:=.tup [.tup (.str ((Txt.split (Txt.partition x prT).1 spT).getD 0 Str.empty)::((Txt.split (Txt.partition x prT).1 spT).drop 1).map rnD),rnD (Txt.partition x prT).2.2]
theorem aCx{p:Int×Int}{s:SK}(h:lT p s):rpQ (lnS s)=skD s:=by
 obtain⟨s1,s2,s3,s4⟩:=gK h.1;have p1:=h.2.1;have p9:=h.2.2;have ep:Txt.partition (lnS s) prT=(Txt.join spT<|stW s.1.1 s.1.2.1.toNat (jnQ s.1).toNat,prT,bZ s.2.toNat):=aIy s1 s2 s3;have ew:=aEY s1 s2 s3;have er:=aFF h.1;have tl:=aFa (k:=s.1.1) (i:=s.1.2.1.toNat) (j:=(jnQ s.1).toNat) (by omega) s3;unfold rpQ;rw[ep];dsimp only;rw[ew];have e0:(stW s.1.1 s.1.2.1.toNat (jnQ s.1).toNat).getD 0 Str.empty=nm s.1.1:=by unfold stW;split<;>rfl
 have e1:((stW s.1.1 s.1.2.1.toNat (jnQ s.1).toNat).drop 1).map rnD=(((stW s.1.1 s.1.2.1.toNat (jnQ s.1).toNat).drop 1).map D.str).map rdD:=by
  rw[cJ];refine jP λw hw=> ?_
  obtain⟨n,hn,e⟩:=tl (.str w)<|bT hw;exact aNS hn<|D.str.inj e
 rw[e0,e1,er,tM<|by omega,eQ<|by omega];unfold skD;rw[aES]
theorem aIW:∀n∈selfN,∃k,k<10/\7<=k/\n=nm k:=λn hn=>by
 simp only[selfN,aG,bD,or_false] at hn
 rcases hn with rfl|rfl|rfl
 ·exact⟨7,by decide,by decide,by decide+kernel⟩
 ·exact⟨8,by decide,by decide,by decide+kernel⟩
 ·exact⟨9,by decide,by decide,by decide+kernel⟩
theorem aKI:∀n∈anoN,∃k,k<6/\n=nm k:=λn hn=>by
 simp only[anoN,aG,bD,or_false] at hn
 rcases hn with rfl|rfl|rfl|rfl|rfl|rfl
 ·exact⟨0,by decide,by decide+kernel⟩
 ·exact⟨1,by decide,by decide+kernel⟩
 ·exact⟨2,by decide,by decide+kernel⟩
 ·exact⟨3,by decide,by decide+kernel⟩
 ·exact⟨4,by decide,by decide+kernel⟩
 ·exact⟨5,by decide,by decide+kernel⟩
theorem aLj:("put":Str)=nm 6:=by decide+kernel
theorem aBp{p:Int×Int}(hp:p∈sizes14){W:List Str}(hW:W≠[])(h:mH p (.tup (.str (W.getD 0 Str.empty)::(W.drop 1).map rnD))=true):∃q:SQ,oE p q/\W=stW q.1 q.2.1.toNat (jnQ q).toNat:=by
 obtain⟨z1,z2,z3,z4,z5⟩:=sG p hp;have pw:=pw0 p.1.toNat;cases W with
 |nil=>exact absurd rfl hW
 |cons w0 l=>
  have h:mH p (.tup (.str w0::l.map rnD))=true:=h;cases l with
  |nil=>cases h
  |cons w1 l=>
   have h:(gS p.2 (rnD w1)&&(if inD selfN (.str w0) then(l.map rnD).isEmpty else mC p (.str w0) (l.map rnD)))=true:=h;rw[aR] at h;obtain⟨hb,hT⟩:=h;obtain⟨i,ei⟩:=kZ hb;obtain⟨n,hn,rfl,rfl⟩:=oY ei;rw[ei] at hb;have hb:(decide ((0:Int)<=(n:Int))&&decide ((n:Int)<p.2))=true:=hb;simp only[aR,decide_eq_true_eq] at hb
   split at hT
   ·rename_i hs;obtain⟨m,hm,e⟩:=sW hs;obtain⟨k,hk,k7,rfl⟩:=aIW m hm;cases e
    have:l=[]:=by cases l with
     |nil=>rfl
     |cons _ _=>cases hT
    subst this;refine⟨(k,(n:Int),0,0),⟨hp,hk,hb,⟨iH 0,(by omega:(0:Int)<p.2)⟩,⟨iH 0,pw⟩⟩, ?_⟩;unfold stW;rw[if_neg<|by show ¬ k<7;omega];show _=[nm k,bZ ((n:Int)).toNat];rw[cD]
   ·unfold mC at hT
    split at hT
    ·rename_i z ez
     obtain⟨w2,rfl⟩:∃w2,l=[w2]:=by
      match l,ez with
      |[w2],_=>exact⟨w2,rfl⟩
     have ez:rnD w2=z:=by simpa using ez
     split at hT
     ·rename_i hput;have e6:=aCr hput;cases e6;obtain⟨j,ej⟩:=kZ hT;rw[ej] at ez hT;obtain⟨m,hm,rfl,rfl⟩:=oY ez;have h7:(decide ((0:Int)<=(m:Int))&&decide ((m:Int)<((2^p.1.toNat:Nat):Int)))=true:=hT;simp only[aR,decide_eq_true_eq] at h7;refine⟨(6,(n:Int),0,(m:Int)),⟨hp,(by decide:(6:Nat)<10),hb,⟨iH 0,(by omega:(0:Int)<p.2)⟩,h7⟩, ?_⟩;unfold stW;rw[if_pos<|by show 6<7;decide];show _=[nm 6,bZ ((n:Int)).toNat,bZ (jnQ (6,(n:Int),0,(m:Int))).toNat];rw[cD,show jnQ (6,(n:Int),0,(m:Int))=(m:Int) from rfl,cD,<-aLj]
     ·rw[aR] at hT;obtain⟨a,ha,e⟩:=sW hT.1;obtain⟨k,hk,rfl⟩:=aKI a ha;cases e;obtain⟨j,ej⟩:=kZ hT.2;have h2:=hT.2;rw[ej] at ez h2;obtain⟨m,hm,rfl,rfl⟩:=oY ez;have h2:(decide ((0:Int)<=(m:Int))&&decide ((m:Int)<p.2))=true:=h2;simp only[aR,decide_eq_true_eq] at h2;refine⟨(k,(n:Int),(m:Int),0),⟨hp,(show k<10 by omega),hb,h2,⟨iH 0,pw⟩⟩, ?_⟩;have ej2:jnQ (k,(n:Int),(m:Int),0)=(m:Int):=by unfold jnQ;rw[if_pos hk]
      unfold stW;rw[if_pos (by show k<7;omega),ej2];show _=[nm k,bZ ((n:Int)).toNat,bZ ((m:Int)).toNat];rw[cD,cD]
    ·cases hT
theorem aLG{p:Int×Int}(hp:p∈sizes14){x:Str}(h:jS p (rpQ x)=true):∃s,lT p s/\x=lnS s:=by
 unfold rpQ at h;have h:(mH p _&&prB (rnD (Txt.partition x prT).2.2))=true:=h;rw[aR] at h;obtain⟨h1,h2⟩:=h
 obtain⟨i,ei⟩:∃i,rnD (Txt.partition x prT).2.2=.int i:=by
  cases q:rnD (Txt.partition x prT).2.2 with
  |int i=>exact⟨i,rfl⟩
  |_=>rw[q] at h2;cases h2
 obtain⟨n,hn,en,rfl⟩:=oY ei;rw[ei] at h2;have h2:(decide ((1:Int)<=(n:Int))&&decide ((n:Int)<=9))=true:=h2;simp only[aR,decide_eq_true_eq] at h2;obtain⟨q,hq,eW⟩:=aBp hp (hR _ _) h1
 rcases uP x prT with e|⟨a,b,e1,e2⟩
 ·rw[e] at en;have:=congrArg (λx:Str=>x.length) en;have l:=(qN n hn).1.2;have this:(Str.empty).length=(bZ n).length:=this;rw[<-this] at l;exact absurd l<|by decide
 ·rw[e2] at en eW;have en:b=bZ n:=en;have eW:Txt.split a spT=stW q.1 q.2.1.toNat (jnQ q).toNat:=eW;refine⟨(q,(n:Int)),⟨hq,h2⟩, ?_⟩;have ea:=StrLaws.join_split a spT;rw[eW] at ea;show x=lnT q.1 q.2.1.toNat (jnQ q).toNat ((n:Int)).toNat;rw[aHF,e1,cD,en]
  have:a=Txt.join spT (stW q.1 q.2.1.toNat (jnQ q).toNat):=by rw[<-ea];show _=Builtin.Str.glued _ _;rw[StrLaws.glued_eq_join]
  rw[<-this]
theorem aHA(x:Str):wK (rpQ x)=true:=by
 show(okB (.tup (.str ((Txt.split (Txt.partition x prT).1 spT).getD 0 Str.empty)::aMy rnD ((Txt.split (Txt.partition x prT).1 spT).drop 1)))&&kK (rnD (Txt.partition x prT).2.2))=true;rw[aHG,Bool.and_true];generalize (Txt.split (Txt.partition x prT).1 spT).getD 0 Str.empty=w0;generalize (Txt.split (Txt.partition x prT).1 spT).drop 1=W;cases W with
 |nil=>rfl
 |cons w l=>
  show(pl (.str w0)&&(aMy rnD (w::l)).all kK)=true
  have:(aMy rnD (w::l)).all kK=true:=bJ.mpr λd hd=>by obtain⟨v,_,rfl⟩:=bA.mp hd;exact aHG v
  rw[this];rfl
open Classical in
noncomputable def lnF(p:Int×Int)(x:Str):Option SK:=if h:∃s,lT p s/\x=lnS s then some h.choose else none
theorem pH{p:Int×Int}{x:Str}{s:SK}(h:lnF p x=some s):lT p s/\x=lnS s:=by
 unfold lnF at h
 split at h
 ·rename_i q;cases h;exact q.choose_spec
 ·cases h
theorem aAQ{p:Int×Int}{x:Str}(h:lnF p x=none){s:SK}(hs:lT p s):x≠lnS s:=λe=>by unfold lnF at h;rw[dif_pos ⟨s,hs,e⟩] at h;cases h
theorem aGU{p:Int×Int}{x:Str}{s:SK}(h:lnF p x=some s):rpQ x=skD s:=by obtain⟨a,b⟩:=pH h;rw[b,aCx a]
theorem aMe{p:Int×Int}(hp:p∈sizes14){x:Str}(h:lnF p x=none):jS p (rpQ x)=false:=by
 cases e:jS p (rpQ x) with
 |false=>rfl
 |true=>obtain⟨s,a,b⟩:=aLG hp e;exact absurd b<|aAQ h a
theorem aGF{p:Int×Int}{s:SK}(h:lT p s):∃s',lnF p (lnS s)=some s'/\skD s'=skD s:=by
 cases e:lnF p (lnS s) with
 |none=>exact absurd rfl<|aAQ e h
 |some s'=>exact⟨s',rfl,by rw[<-aGU e,aCx h]⟩
noncomputable def rnS:D->D
 |.str x=>rnD x
 |_=>.non
def xK:List D->R->Prop:=λds r=>∃x,ds=[.str x]/\Asc x 9000/\r=.val (rpQ x)
theorem aEa(F:FI K mg "read_priced_step" zG)(ztuple:mg "tuple"=none)(GN:bP P w K mg base "read_number" 1 1 aBR):bP P w K mg base "read_priced_step" 2 1 xK:=by
 have nd2:(["word"]:List Str).Nodup:=by decide+kernel
 refine dL (N:=["line","parts","words","step"]) (ps:=["line"]) (k:=1) F λf nd cdv A outer s H E hr ds r hl c=> ?_
 obtain⟨x,rfl,hx,rfl⟩:=c;obtain⟨ha,hb⟩:=aFE (y:=prT) hx;refine aE<|fM (d:=.tup [.str (Txt.partition x prT).1,.str (Txt.partition x prT).2.1,.str (Txt.partition x prT).2.2]) 1 (aIc (y:=prT) (pdv 0) bO (by decide+kernel) (aQ hx.2<|by decide)) ?_;unfold rpQ;generalize Txt.partition x prT=q at *;obtain⟨a,m,b⟩:=q;have ha:Asc a 9000:=ha;have hb:Asc b 9000:=hb;have cnt:=iQ (c:=32) ha;have sa:∀p∈Txt.split a spT,Asc p 10000:=λp hp=>(iP ha hp).mono<|by decide
 have ne:=hR a spT;refine aE<|fM (d:=.lst<|(Txt.split a spT).map D.str) 2 (PEd.val<|hJ (y:=spT) (pdx (n:=0) (d:=.str a)<|pdv 1) bO (by decide) (aQ ha.2<|by decide) (aQ cnt<|by decide)) ?_;have cnt':(Txt.split a spT).length<=9001:=cnt;show PSd _ _ _ _;dsimp only;generalize Txt.split a spT=W at *
 obtain⟨w0,l,rfl⟩:∃w l,W=w::l:=by
  cases W with
  |nil=>exact absurd rfl ne
  |cons w l=>exact⟨w,l,rfl⟩
 have el:((w0::l).map D.str).drop 1=l.map D.str:=rfl
 have ll:l.length<=9000:=by have:l.length+1<=9001:=cnt';omega
 refine aE<|fM (d:=.tup (.str w0::l.map rnD)) 3 (aHU (d1:=[.str w0]) (d2:=l.map rnD) (pdT (ds:=[.str w0])<|aB (eU (n:=0) (PEd.bor<|pdv 2) aP rfl λ_ _=>rfl) aN) (wP (by rfl) ztuple<|PEd.bor (PEd.val<|PEd.cast (pdC (ds:=l.map D.str) (N:=["word"]) (M:=["line","parts","words","step"]) (cap:=[none]) (sc:=bE zG) (Tb:=λd=>[.val d]) (λ_=>true) rnS (gO<|PEd.val (PEd.cast (pY (k:=1) (PEd.bor<|pdv 2) aP)<|by rw[el])) (by rw[aD];omega) (λcl C fp s H d hd=>.inl ⟨rfl,rfl⟩) λcl C fp s H d hd _=> ?_) ?_)) ?_) ?_
 ·obtain⟨v,hv,rfl⟩:=bA.mp hd;exact pdc (ds:=[.str v]) (r:=.val<|rnD v) GN hr (aB (pdv 0) aN) ⟨v,rfl,sa v<|aH _ hv,rfl⟩
 ·rw[dU.mpr λ_ _=>rfl,cJ];rfl
 ·rw[aD];show 1+_<=10000;omega
 exact aS (kW<|pdT (ds:=[.tup (.str w0::l.map rnD),rnD b]) (aB (pdv 3)<|aB (pdc (ds:=[.str b]) (r:=.val<|rnD b) GN hr (aB (pdx (n:=2)<|pdv 1) aN) ⟨b,rfl,hb.mono<|by decide,rfl⟩) aN))
abbrev nl3:List Str:=["self","line"]
theorem pV{CC CL:BC}(F:Fun K "__init__" "NoText.__init__" zZ f fd)(xi:XIn K mg "line" CC CL f):FnOk P w K mg base CX0 1 f fd nl3 (spL (exZ K "line" CC) 2<|aNd "line" CC):=by
 have nd:nl3.Nodup:=by decide+kernel
 refine aLZ (Z:=exZ K "line" CC) (N:=nl3) (ps:=nl3) (k:=0) F ⟨rfl,rfl,rfl,nd,rfl,by decide+kernel,by decide+kernel⟩ (λcdv A outer s H E B hB hr a ds post hl c=> ?_) aLI;obtain⟨x,t,i,rfl,hi,rfl,rfl⟩:=c;have hlog:i.natAbs.log2<1920:=aHp (Nat.log2_le_self _) (by omega);refine aE<|aEW (X:=reB (jQ CX0 P w K mg base nl3 "NoText.__init__" (bE zZ) f cdv A outer s H E).nox B hB) xi rfl (pv 0) rfl (aEl (zs:=["not as told at line ",toString i]) (aCl bO<|aCl (aIm (pdv 1) hlog) aLD) ?_) λt'=> ?_
 ·have g:∀n,n<64->(yY Str.empty ["not as told at line ",toString ((n:Nat):Int)]).length<=100000:=by decide+kernel
  have:=g i.toNat<|by omega
  rwa[eQ hi.1] at this
 ·exact aS<|aFm xi rfl (pv 0) (pdv 1) λdx=>⟨_,⟨t',dx,rfl⟩,rfl⟩
theorem xC:∀ {l l':List D},(∀x∈l,(∃z,x=.str z)\/∃i,x=.int i)->(∀x∈l',(∃z,x=.str z)\/∃i,x=.int i)->jR l l'=true->l=l'
 |[],[],_,_,_=>rfl
 |[],_::_,_,_,h=>by simp[jR] at h
 |_::_,[],_,_,h=>by simp[jR] at h
 |x::xs,y::ys,h1,h2,h=>by
  simp only[jR,aR] at h
  have e:x=y:=by rcases h1 x aM with⟨a,rfl⟩|⟨a,rfl⟩<;>rcases h2 y aM with⟨b,rfl⟩|⟨b,rfl⟩<;>simpa[deq] using h.1
  rw[e,xC (λz hz=>h1 z<|aH _ hz) (λz hz=>h2 z<|aH _ hz) h.2]
theorem aLO{p:Int×Int}{a b:SQ}(ha:oE p a)(hb:oE p b)(h:deq (sqD a) (sqD b)=true):sqD a=sqD b:=by
 have f:∀q,oE p q->∀x∈sqE q,(∃z,x=.str z)\/∃i,x=.int i:=λq hq x hx=>by
  rcases aCX hq x hx with z|⟨i,e,_⟩
  ·exact .inl z
  ·exact .inr ⟨i,e⟩
 rw[aES,aES] at h ⊢;simp only[deq] at h;rw[xC (f a ha) (f b hb) h]
structure aHx(p:Int×Int)(L:List SK):Prop where
 l8:L.length<=8
 ok:∀s∈L,lT p s
 ap:(L.map λs=>sqD s.1).Pairwise (λa b=>deq a b=false)
noncomputable def oB(L:List SK)(s:SK):Bool:=((L.map skD).map iW).any λz=>deq z<|sqD s.1
theorem xP(L:List SK):(L.map skD).map iW=L.map λs=>sqD s.1:=by rw[cJ];rfl
theorem aDl{p:Int×Int}{L:List SK}{s:SK}(A:aHx p L)(hs:lT p s)(hd:oB L s=false)(h8:L.length≠8):aHx p (L++[s]):=by
 have l8:=A.l8;refine⟨by rw[aU];simp;omega,λq hq=> ?_, ?_⟩
 ·rcases aW.mp hq with z|z
  ·exact A.ok q z
  ·rw[bX.mp z];exact hs
 ·rw[aT];refine dQ.mpr ⟨A.ap,aBd _ _,λx hx y hy=> ?_⟩;have hy:y=sqD s.1:=by simpa using hy
  subst hy;unfold oB at hd;rw[xP] at hd;cases q:deq x (sqD s.1) with
  |false=>rfl
  |true=>rw[eY.mpr ⟨x,hx,q⟩] at hd;cases hd
theorem aLS{p:Int×Int}{L:List SK}(A:aHx p L)(h0:L≠[]):Stk p L:=⟨fG.mpr h0,A.l8,A.ok,A.ap⟩
theorem aKB{p:Int×Int}{L:List SK}{s:SK}(A:aHx p L)(hs:lT p s)(hd:oB L s=false)(h8:L.length≠8):sK p (.lst<|L.map skD++[skD s])=true:=by
 have:=aIM (aLS (aDl A hs hd h8)<|by simp)
 rwa[aT] at this
theorem aKY{p:Int×Int}{L:List SK}{d:D}(h:jS p d=false):sK p (.lst<|L.map skD++[d])=false:=by show(_&&((L.map skD++[d]).all (jS p)&&_))=false;rw[aJJ];simp[h]
theorem st_8{p:Int×Int}{L:List SK}{d:D}(h:L.length=8):sK p (.lst<|L.map skD++[d])=false:=by show((_&&decide ((L.map skD++[d]).length<=8))&&_)=false;rw[aU,aD,h];simp
theorem aLn{p:Int×Int}{L:List SK}{s:SK}(A:aHx p L)(hs:lT p s)(hd:oB L s=true):sK p (.lst<|L.map skD++[skD s])=false:=by
 show(_&&(_&&decide (((L.map skD++[skD s]).map pR).Nodup)))=false
 have:¬ ((L.map skD++[skD s]).map pR).Nodup:=λnd=>by rw[aT] at nd;have:=(dA.mp nd).2.2;unfold oB at hd;rw[xP] at hd;obtain⟨x,hx,q⟩:=eY.mp hd;obtain⟨a,ha,rfl⟩:=bA.mp hx;have e:=aLO (A.ok a ha).1 hs.1 q;refine this (pR<|skD a) (bT<|bT ha) (pR<|skD s) (by simp) ?_;show aER (sqD a.1)=aER (sqD s.1);rw[e]
 rw[decide_eq_false this];simp
noncomputable def goL(p:Int×Int):List SK->List Str->Nat ⊕ List SK
 |L,[]=>.inr L
 |L,x::xs=>match lnF p x with
  |none=>.inl<|L.length+1
  |some s=>if(oB L s||decide (L.length=8))=true then .inl (L.length+1) else goL p (L++[s]) xs
theorem vA(p:Int×Int)(L:List SK)(x:Str)(xs:List Str):goL p L (x::xs)=match lnF p x with
  |none=>.inl<|L.length+1
  |some s=>if(oB L s||decide (L.length=8))=true then .inl (L.length+1) else goL p (L++[s]) xs:=by rw[goL]
noncomputable def rlQ:List Str->Nat ⊕ ((Int×Int)×List SK)
 |[]=>.inl 0
 |x::xs=>match szF x with
  |none=>.inl 0
  |some p=>match xs with
   |[]=>.inl 1
   |_::_=>match goL p [] xs with
    |.inl k=>.inl k
    |.inr L=>.inr (p,L)
theorem aOr{p:Int×Int}:∀ {xs:List Str}{L:List SK}{k:Nat},L.length<=8->goL p L xs=.inl k->k<=9
 |[],L,k,_,h=>by cases h
 |x::xs,L,k,h8,h=>by
  unfold goL at h
  split at h
  ·cases h;omega
  ·split at h
   ·cases h;omega
   ·rename_i s _ q;refine aOr (L:=L++[s]) ?_ h;have:L.length≠8:=λe=>q (by rw[decide_eq_true e,aOd])
    rw[aU];simp;omega
theorem aKE(p:Int×Int):aHx p []:=⟨by decide,(λs hs=>by cases hs),List.Pairwise.nil⟩
structure zH(p:Int×Int)(xs:List Str)(t:Nat)(L:List SK):Prop where
 ac:aHx p L
 ln:L.length=t
 go:goL p [] xs=goL p L (xs.drop t)
theorem aNg(p:Int×Int)(xs:List Str):zH p xs 0 []:=⟨aKE p,rfl,rfl⟩
theorem yP{p:Int×Int}{xs:List Str}{t:Nat}{L:List SK}(G:zH p xs t L){x:Str}(hx:xs[t]? =some x){s:SK}(hs:lnF p x=some s)(hd:oB L s=false)(h8:L.length≠8):zH p xs (t+1) (L++[s]):=by refine⟨aDl G.ac (pH hs).1 hd h8,by rw[aU,G.ln];rfl, ?_⟩;obtain⟨ht,e⟩:=bF.mp hx;rw[G.go,kP ht,e,vA,hs];dsimp only;rw[hd,decide_eq_false h8];rfl
theorem pS{p:Int×Int}{xs:List Str}{t:Nat}{L:List SK}(G:zH p xs t L){x:Str}(hx:xs[t]? =some x)(h:∀s,lnF p x=some s->(oB L s||decide (L.length=8))=true):goL p [] xs=.inl (t+1):=by
 obtain⟨ht,e⟩:=bF.mp hx;rw[G.go,kP ht,e,vA]
 split
 ·rw[G.ln]
 ·rename_i s hs;rw[if_pos<|h s hs,G.ln]
theorem aBV{p:Int×Int}{xs:List Str}{t:Nat}{L:List SK}(G:zH p xs t L)(ht:xs.length<=t):goL p [] xs=.inr L:=by rw[G.go,List.drop_eq_nil_of_le ht];unfold goL;rfl
theorem aKd{p:Int×Int}(hp:p∈sizes14){xs:List Str}{t:Nat}{L:List SK}(G:zH p xs t L){x:Str}(hx:xs[t]? =some x):
  (∃s,lnF p x=some s/\oB L s=false/\L.length≠8/\rpQ x=skD s/\sK p (.lst<|L.map skD++[rpQ x])=true)\/(goL p [] xs=.inl (t+1)/\sK p (.lst<|L.map skD++[rpQ x])=false):=by
 cases e:lnF p x with
 |none=>exact .inr ⟨pS G hx (λs hs=>by rw[e] at hs;cases hs),aKY<|aMe hp e⟩
 |some s=>
  have er:=aGU e;have hs:=(pH e).1;rw[er]
  by_cases h8:L.length=8
  ·exact .inr ⟨pS G hx λs hs=>by rw[decide_eq_true h8,aOd],st_8 h8⟩
  ·cases hd:oB L s with
   | true=>exact .inr ⟨pS G hx fun s' hs'=>by
     rw[e] at hs';cases hs';rw[hd]
     rfl,aLn G.ac hs hd⟩
   |false=>exact .inl ⟨s,rfl,hd,h8,rfl,aKB G.ac hs hd h8⟩
def aHz(xs:List Str):Prop:=xs≠[]/\xs.length<=9000/\∀x∈xs,Asc x 9000
def pN:List D->R->Prop:=λds r=>∃xs p L,aHz xs/\rlQ xs=.inr (p,L)/\ds=[.lst<|xs.map D.str]/\r=.pr (bW p) (L.map skD)
def uO:Int->List D->Prop:=λi ds=>∃xs k,aHz xs/\rlQ xs=.inl k/\i=((k:Nat):Int)/\ds=[.lst<|xs.map D.str]
theorem qP{x:Str}{xs:List Str}:rlQ (x::xs)=match szF x with
  |none=>.inl 0
  |some p=>match xs with
   |[]=>.inl 1
   |_::_=>match goL p [] xs with
    |.inl k=>.inl k
    |.inr L=>.inr (p,L):=rfl
theorem aKv{x:Str}{xs:List Str}{p:Int×Int}{L:List SK}(h:rlQ (x::xs)=.inr (p,L)):szF x=some p/\xs≠[]/\goL p [] xs=.inr L:=by
 rw[qP] at h
 split at h
 ·cases h
 ·rename_i p' e;cases xs with
  |nil=>cases h
  |cons y ys=>
   dsimp only at h
   split at h
   ·cases h
   ·rename_i L' e2;cases h;exact⟨e,by simp,e2⟩
theorem aLW{x:Str}{xs:List Str}{k:Nat}(h:rlQ (x::xs)=.inl k):(szF x=none/\k=0)\/∃p,szF x=some p/\((xs=[]/\k=1)\/(xs≠[]/\goL p [] xs=.inl k)):=by
 rw[qP] at h
 split at h
 ·rename_i e;cases h;exact .inl ⟨e,rfl⟩
 ·rename_i p e;refine .inr ⟨p,e, ?_⟩;cases xs with
  |nil=>cases h;exact .inl ⟨rfl,rfl⟩
  |cons y ys=>
   dsimp only at h
   split at h
   ·rename_i k' e2;cases h;exact .inr ⟨by simp,e2⟩
   ·cases h
theorem gok{L:List SK}{d:D}(h:L.length<=8)(hd:wK d=true):aMT (.lst<|L.map skD++[d]):=aLp (by rw[aU,aD];simp;omega) (by rw[aJJ,aLC];simp[hd])
theorem aAG{xs:List Str}{t:Nat}{d:D}(h:(xs.map D.str)[t]? =some d):∃x,xs[t]? =some x/\d=.str x:=by
 rw[bQ] at h;cases e:xs[t]? with
 |none=>rw[e] at h;cases h
 |some x=>rw[e] at h;exact⟨x,rfl,(cC.inj h).symm⟩
structure aMV(K:aA)(mg:Str->Option BA)(CC CL fI:BC):Prop where
 xi:XIn K mg "line" CC CL fI
 kp:bS K (.ref CC)=true
 ty:vG K (.ref fI)=some (.type "function")
 mc:mg "NoText"=some (.ref CC)
abbrev nl4:List Str:=["lines","size","stock","line"]
theorem aAg(F:Fun K "read_lines" "read_lines" uC f fd)(zlen:mg "len"=none)(hm:mg "read_lines"=some (.ref f))(GZ:bP P w K mg base "read_size" 2 1 yE)(GI:bP P w K mg base "is_size" 2 1 zI)(GS:bP P w K mg base "read_priced_step" 2 1 xK)(GK:bP P w K mg base "is_stock" 5 2 aMH):bP P w K mg base "read_lines" 6 1 pN:=by
 have nd:nl4.Nodup:=by decide+kernel
 refine aDg (N:=nl4) (ps:=["lines"]) (k:=5) F hm λcdv A outer s H E hr ds r hl c=> ?_
 obtain⟨xs0,p,M,⟨h0,h1,h2⟩,hq,rfl,rfl⟩:=c;cases xs0 with
 |nil=>exact absurd rfl h0
 |cons x xs=>
 obtain⟨ez,ne,eg⟩:=aKv hq;obtain⟨hp,_⟩:=jL ez;have isz:=(aCd p hp).1;have l1:0<xs.length:=fG.mpr ne
 have l2:xs.length<=8999:=by have:xs.length+1<=9000:=h1;omega
 refine aE<|fM (d:=bW p) 1 (pdc (ds:=[.str x]) GZ hr (aB (eU (n:=0) (PEd.bor<|pdv 0) aP rfl λ_ _=>rfl) aN) ⟨x,rfl,h2 x aM,by rw[aCP ez]⟩) ?_;refine aHv (PTd.cast (dP (dX<|pdc (ds:=[bW p]) (r:=.val<|.bl (sL<|bW p)) GI hr (aB (pdv 1) aN) ⟨_,rfl,aCK hp,rfl⟩))<|by rw[isz];rfl) ?_;refine aHv (PTd.cast (gP (dR rfl zlen (PEd.bor<|pdv 0)) aP) ?_) ?_
 ·rw[aD,bM];exact decide_eq_false<|by omega
 refine aE<|pE (ds:=[]) 2 (kM (ds:=[]) aN<|bU _) λl2'=> ?_;refine aE<|pW (ds:=xs.map D.str) (λt sd=>∃L,zH p xs t L/\sd=[.val (.lst<|(x::xs).map D.str),.val<|bW p,.own l2'<|L.map skD,.un]) (gO (PEd.val<|PEd.cast (pY (k:=1) (PEd.bor<|pdv 0) aP) rfl)) ⟨_,Le.refl _,[],aNg p xs,rfl⟩ (λt d sdt hd ht=> ?_) λsdn hn=> ?_
 ·obtain⟨L,G,rfl⟩:=ht;obtain⟨y,hy,rfl⟩:=aAG hd;have ym:y∈xs:=cK hy;have l8:=G.ac.l8;refine⟨_,pgN 3, ?_⟩
  rcases aKd hp G hy with⟨s',e1,e2,e3,e4,e5⟩|⟨e1,_⟩
  ·refine aE<|iN (d:=rpQ y) 2 rfl (pv 2) (pdc (ds:=[.str y]) GS hr (aB (pdv 3) aN) ⟨y,rfl,h2 y<|aH _ ym,rfl⟩) (by rw[aD];omega) ?_;refine rM (sd':=[.val (.lst<|(x::xs).map D.str),.val<|bW p,.own l2'<|L.map skD++[rpQ y],.val<|.str y]) ⟨.inr rfl,.inr rfl,.inr rfl,.inr rfl,trivial⟩ ?_;refine aS (lW (k:=false) (PTd.lend 2 rfl (wB rfl) (PTd.cast (dP (dX<|pdc (ds:=[bW p,.lst<|L.map skD++[rpQ y]]) (r:=.val (.bl<|sK p (.lst<|L.map skD++[rpQ y]))) GK hr (aB (pdv 1)<|aB (pdv 2) aN) ⟨p,_,hp,gok l8<|aHA y,rfl,rfl⟩))<|by rw[e5];rfl)) rfl<|cN ?_);refine⟨[.val (.lst<|(x::xs).map D.str),.val<|bW p,.own l2'<|(L++[s']).map skD,.un],⟨.inr rfl,.inr rfl,.inr (by rw[aT,e4];rfl),.inl rfl,trivial⟩,L++[s'],yP G hy e1 e2 e3,rfl⟩
  ·rw[eg] at e1;cases e1
 ·obtain⟨L,G,rfl⟩:=hn;rw[aD] at G;have:=aBV G<|aO _;rw[eg] at this;cases this;exact aS<|aFS 2 rfl (pv 2) (pdv 1) rfl
theorem yK{CC CL fI:BC}{fdI:AJ}(F:FI K mg "read_lines" uC)(zlen:mg "len"=none)(xm:aMV K mg CC CL fI)(FI:Fun K "__init__" "NoText.__init__" zZ fI fdI)(GZ:bP P w K mg base "read_size" 2 1 yE)(GI:bP P w K mg base "is_size" 2 1 zI)(GS:bP P w K mg base "read_priced_step" 2 1 xK)(GK:bP P w K mg base "is_stock" 5 2 aMH):bP P w K mg base "read_lines" 6 1 pN/\jX P w K mg base "read_lines" 6 1 uO "line" CC:=by
 obtain⟨f,fd,hm,F⟩:=F;refine⟨aAg F zlen hm GZ GI GS GK, ?_⟩;have nd:nl4.Nodup:=by decide+kernel
 have bI:=FI.binds (ps:=nl3) λ_ _ _ _ _ _ us hl=>match us,hl with | [_,_],_=>rfl
 refine aCJ (N:=nl4) (ps:=["lines"]) (k:=5) F ⟨rfl,rfl,rfl,nd,rfl,by decide+kernel,by decide+kernel⟩ hm (λ_ _ _ _ _ _ us hl=>match us,hl with | [_],_=>rfl) λi cdv A outer s H E hr hE ds hl c=> ?_
 obtain⟨xs0,k,⟨h0,h1,h2⟩,hq,rfl,rfl⟩:=c;cases xs0 with
 |nil=>exact absurd rfl h0
 |cons x xs=>
 have hr2:=hr.mono (show 2<=5 by decide)
 have l2:xs.length<=8999:=by have:xs.length+1<=9000:=h1;omega
 refine aE<|fM (d:=rzQ x) 1 (pdc (ds:=[.str x]) GZ hr2 (aB (eU (n:=0) (PEd.bor<|pdv 0) aP rfl λ_ _=>rfl) aN) ⟨x,rfl,h2 x aM,rfl⟩) ?_
 rcases aLW hq with⟨ez,rfl⟩|⟨p,ez,hh⟩
 ·have isz:=aIO ez;refine aE<|eG (k:=true) (PTd.cast (dP (dX<|pdc (ds:=[rzQ x]) (r:=.val<|.bl (sL<|rzQ x)) GI hr2 (aB (pdv 1) aN) ⟨_,rfl,aNr x,rfl⟩))<|by rw[isz];rfl) rfl ?_;exact aS<|oQ xm.xi (qG xm.xi xm.kp xm.ty (pV FI xm.xi) bI hr2 rfl xm.mc aP ⟨by decide,by decide⟩) (oV hE) rfl
 ·obtain⟨hp,_⟩:=jL ez;have isz:=(aCd p hp).1;rw[aCP ez];refine aHv (PTd.cast (dP (dX<|pdc (ds:=[bW p]) (r:=.val<|.bl (sL<|bW p)) GI hr2 (aB (pdv 1) aN) ⟨_,rfl,aCK hp,rfl⟩))<|by rw[isz];rfl) ?_
  rcases hh with⟨rfl,rfl⟩|⟨ne,eg⟩
  ·refine aE<|eG (k:=true) (PTd.cast (gP (dR rfl zlen (PEd.bor<|pdv 0)) aP) rfl) rfl ?_;exact aS<|oQ xm.xi (qG xm.xi xm.kp xm.ty (pV FI xm.xi) bI hr2 rfl xm.mc aP ⟨by decide,by decide⟩) (oV hE) rfl
  ·have l1:0<xs.length:=fG.mpr ne;have k9:=aOr (L:=[]) (bU 8) eg;refine aHv (PTd.cast (gP (dR rfl zlen (PEd.bor<|pdv 0)) aP) ?_) ?_
   ·rw[aD,bM];exact decide_eq_false<|by omega
   refine aE<|pE (ds:=[]) 2 (kM (ds:=[]) aN<|bU _) λl2'=> ?_;refine aE<|pW (ds:=xs.map D.str) (λt sd=>∃L,zH p xs t L/\sd=[.val (.lst<|(x::xs).map D.str),.val<|bW p,.own l2'<|L.map skD,.un]) (gO (PEd.val<|PEd.cast (pY (k:=1) (PEd.bor<|pdv 0) aP) rfl)) ⟨_,Le.refl _,[],aNg p xs,rfl⟩ (λt d sdt hd ht=> ?_) (λsdn hn=> ?_) (hp:=PassesOwn.leaving)
   ·obtain⟨L,G,rfl⟩:=ht;obtain⟨y,hy,rfl⟩:=aAG hd;have ym:y∈xs:=cK hy;have l8:=G.ac.l8;refine⟨_,pgN 3, ?_⟩;refine aE<|iN (d:=rpQ y) 2 rfl (pv 2) (pdc (ds:=[.str y]) GS hr2 (aB (pdv 3) aN) ⟨y,rfl,h2 y<|aH _ ym,rfl⟩) (by rw[aD];omega) ?_;refine rM (sd':=[.val (.lst<|(x::xs).map D.str),.val<|bW p,.own l2'<|L.map skD++[rpQ y],.val<|.str y]) ⟨.inr rfl,.inr rfl,.inr rfl,.inr rfl,trivial⟩ ?_
    rcases aKd hp G hy with⟨s',e1,e2,e3,e4,e5⟩|⟨e1,e5⟩
    ·refine aS (lW (k:=false) (PTd.lend 2 rfl (wB rfl) (PTd.cast (dP (dX<|pdc (ds:=[bW p,.lst<|L.map skD++[rpQ y]]) (r:=.val (.bl<|sK p (.lst<|L.map skD++[rpQ y]))) GK hr (aB (pdv 1)<|aB (pdv 2) aN) ⟨p,_,hp,gok l8<|aHA y,rfl,rfl⟩))<|by rw[e5];rfl)) rfl<|cN ?_);refine⟨[.val (.lst<|(x::xs).map D.str),.val<|bW p,.own l2'<|(L++[s']).map skD,.un],⟨.inr rfl,.inr rfl,.inr (by rw[aT,e4];rfl),.inl rfl,trivial⟩,L++[s'],yP G hy e1 e2 e3,rfl⟩
    ·rw[eg] at e1;cases e1;refine aS<|eG (k:=true) (PTd.lend 2 rfl (wB rfl) (PTd.cast (dP (dX<|pdc (ds:=[bW p,.lst<|L.map skD++[rpQ y]]) (r:=.val (.bl<|sK p (.lst<|L.map skD++[rpQ y]))) GK hr (aB (pdv 1)<|aB (pdv 2) aN) ⟨p,_,hp,gok l8<|aHA y,rfl,rfl⟩))<|by rw[e5];rfl)) rfl ?_;refine jY 2 rfl ?_;exact aS<|oQ xm.xi (qG xm.xi xm.kp xm.ty (pV FI xm.xi) bI hr2 rfl xm.mc (PEd.cast (dR rfl zlen (PEd.bor<|pdv 2))<|by rw[aU,aD,G.ln];rfl) ⟨by omega,by omega⟩) (oV hE) rfl
   ·exfalso;obtain⟨L,G,_⟩:=hn;rw[aD] at G;have:=aBV G<|aO _;rw[eg] at this;cases this
theorem aBO{x:Str}(h:Asc x 8000):aHz (Txt.split x nlT):=⟨hR _ _,aQ (iQ (c:=10) h)<|by decide,λp hp=>(iP h hp).mono<|by decide⟩
def qF:List D->R->Prop:=λds r=>∃x p L,Asc x 8000/\rlQ (Txt.split x nlT)=.inr (p,L)/\ds=[.str x]/\r=.pr (bW p) (L.map skD)
def qE:Int->List D->Prop:=λi ds=>∃x k,Asc x 8000/\rlQ (Txt.split x nlT)=.inl k/\i=((k:Nat):Int)/\ds=[.str x]
theorem aAj{CC:BC}(F:Fun K "read_stock" "read_stock" uZ f fd)(hm:mg "read_stock"=some (.ref f))(GL:bP P w K mg base "read_lines" 6 1 pN/\jX P w K mg base "read_lines" 6 1 uO "line" CC):bP P w K mg base "read_stock" 7 1 qF:=by
 have nd:(["text"]:List Str).Nodup:=by decide+kernel
 refine aDg (N:=["text"]) (ps:=["text"]) (k:=6) F hm λcdv A outer s H E hr ds r hl c=> ?_
 obtain⟨x,p,L,hx,e,rfl,rfl⟩:=c;have ok:=aBO hx;exact aS (kW<|pdc (ds:=[.lst<|(Txt.split x nlT).map D.str]) GL.1 hr (aB (PEd.val<|hJ (y:=nlT) (pdv 0) bO (by decide) (aQ hx.2<|by decide) (aQ ok.2.1<|by decide)) aN) ⟨_,p,L,ok,e,rfl,rfl⟩)
theorem yQ{CC:BC}(F:FI K mg "read_stock" uZ)(GL:bP P w K mg base "read_lines" 6 1 pN/\jX P w K mg base "read_lines" 6 1 uO "line" CC):bP P w K mg base "read_stock" 7 1 qF/\jX P w K mg base "read_stock" 7 1 qE "line" CC:=by
 obtain⟨f,fd,hm,F⟩:=F;refine⟨aAj F hm GL, ?_⟩;have nd:(["text"]:List Str).Nodup:=by decide+kernel
 refine aCJ (N:=["text"]) (ps:=["text"]) (k:=6) F ⟨rfl,rfl,rfl,nd,rfl,by decide+kernel,by decide+kernel⟩ hm (λ_ _ _ _ _ _ us hl=>match us,hl with | [_],_=>rfl) λi cdv A outer s H E hr hE ds hl c=> ?_
 obtain⟨x,k,hx,e,rfl,rfl⟩:=c;have ok:=aBO hx;exact aS<|aFY (aBa (ds:=[.lst<|(Txt.split x nlT).map D.str]) GL.2 hr rfl (aB (PEd.val<|hJ (y:=nlT) (pdv 0) bO (by decide) (aQ hx.2<|by decide) (aQ ok.2.1<|by decide)) aN) ⟨_,k,ok,e,rfl,rfl⟩ rfl<|aBt hE)
def aJR:List D->R->Prop:=λds r=>∃p L,p∈sizes14/\Stk p L/\ds=[bW p,.lst<|L.map skD]/\r=.val (.str<|txT p L)
abbrev nl5:List Str:=["_law_size_here","_law_stock_here","_law_lines","_law_step_here","_law_price"]
theorem aIN(F:FI K mg "_law_text" aHD)(zstr:mg "str"=none):bP P w K mg base "_law_text" 1 2 aJR:=by
 have nd2:(["_law_part"]:List Str).Nodup:=by decide+kernel
 refine dL (N:=nl5) (ps:=["_law_size_here","_law_stock_here"]) (k:=0) F λf nd cdv A outer s H E hr ds r hl c=> ?_
 obtain⟨p,L,hp,S,rfl,rfl⟩:=c;obtain⟨h1,h2,h3,h4,h5⟩:=sG p hp;have l8:=S.l8;obtain⟨_,z40,_,ze⟩:=uB p hp;have e1:=qX (i:=p.1) (by omega) (by omega);have e2:=qX (i:=p.2) (by omega) (by omega);have n1:=(nR p.1.toNat<|by omega).1.1;have n2:=(nR p.2.toNat<|by omega).1.1;have b5:(("bits ":Str)).length=5:=by decide+kernel
 have b7:((" boxes ":Str)).length=7:=by decide+kernel
 refine aE<|pE (ds:=[.str<|szT p]) 2 (pdL (ds:=[.str<|szT p])<|aB (PEd.cast (hU (x:=("bits ":Str)++bZ p.1.toNat++(" boxes ":Str)) (y:=bZ p.2.toNat) (hU (x:=("bits ":Str)++bZ p.1.toNat) (y:=(" boxes ":Str)) (hU (x:=("bits ":Str)) (y:=bZ p.1.toNat) bO (PEd.cast (sR (by rfl) zstr (pdx (n:=0) (d:=.int p.1)<|pdv 0) (nX (by omega)<|by omega))<|by rw[e1])<|by omega) bO<|by rw[Str.length_append];omega) (PEd.cast (sR (by rfl) zstr (pdx (n:=1) (d:=.int p.2)<|pdv 0) (nX (by omega)<|by omega))<|by rw[e2])<|by rw[Str.length_append,Str.length_append];omega)<|by rw[ze]) aN) λl2=> ?_;refine aE<|nL (ds:=L.map skD) (λt=>[.val<|bW p,.val<|lK L,.own l2<|(szT p::(L.take t).map lnS).map D.str,.un,.un]) (λt=>[.val<|bW p,.val<|lK L,.own l2<|(szT p::(L.take t).map lnS).map D.str,.val<|sqD (L.getD t An).1,.val<|.int (L.getD t An).2]) (gO<|pdv 1) (Le.refl _) (λt d hd=> ?_) (λt d hd=> ?_) ?_
 ·obtain⟨ht,rfl⟩:=aDb hd;exact nV (js:=[3,4]) rfl (dO (pgn 3)<|dO (pgn 4) kE) rfl rfl
 ·obtain⟨ht,rfl⟩:=aDb hd;have hq:L.getD t An∈L:=by simp[dS,ht]
  have et:(szT p::(L.take<|t+1).map lnS).map D.str=(szT p::(L.take t).map lnS).map D.str++[.str (lnS<|L.getD t An)]:=by rw[iK,aT];simp[dS,ht]
  rw[et];generalize L.getD t An=s at *;have hs:lT p s:=S.ok s hq;obtain⟨s1,s2,s3,s4⟩:=gK hs.1;have p1:=hs.2.1;have p9:=hs.2.2;have ett:=aJo hs.1;have em:=aCX hs.1;have ep:=qX (i:=s.2) (by omega) (by omega);obtain⟨l2',l3⟩:=aId s.1;obtain⟨w2,w3⟩:=aDh s.1.1 s.1.2.1.toNat (jnQ s.1).toNat;have wb:=aHX hs;rw[aES];refine aS<|iN (d:=.str<|lnS s) 2 rfl (pv 2) (pZ (z:=spT) (ss:=stW s.1.1 s.1.2.1.toNat (jnQ s.1).toNat++[("price":Str),bZ s.2.toNat]) (PEd.val<|PEd.cast (gQ (d1:=(sqE s.1).map aNa) (d2:=[.str ("price":Str),.str<|bZ s.2.toNat]) (PEd.bor (PEd.val<|PEd.cast (pdC (ds:=sqE s.1) (N:=["_law_part"]) (M:=nl5) (cap:=[none]) (sc:=bE aHD) (Tb:=λd=>[.val d]) (λ_=>true) aNa (aIC<|pdv 3) (by omega) (λcl C fp s H d hd=>.inl ⟨rfl,rfl⟩) λcl C fp s H d hd _=> ?_) ?_)) (PEd.bor (PEd.val<|pdL (ds:=[.str ("price":Str),.str<|bZ s.2.toNat]) (aB bO<|aB (PEd.cast (sR (by rfl) zstr (pdv 4) (nX (by omega)<|by omega))<|by rw[ep]) aN))) ?_) ?_)<|xO wb ?_) ?_ ?_
  ·rcases em d hd with⟨x,rfl⟩|⟨i,rfl,i0,i1⟩
   ·exact aJq (by rfl) zstr<|pdv 0
   ·exact sR (by rfl) zstr (pdv 0) (nX i0<|by omega)
  ·rw[dU.mpr λ_ _=>rfl]
  ·rw[aD];show _+2<=10000;omega
  ·rw[ett,aT];rfl
  ·rw[aU];have:spT.length=1:=rfl;rw[this];show(_+2)*20+(_+2)*1<=_;omega
  ·rw[aD,bM,aD,eC];omega
  ·exact⟨.inr rfl,.inr rfl,.inr rfl,.inl rfl,.inl rfl,trivial⟩
 ·rw[aD,mI]
  have wb:∀y∈szT p::L.map lnS,y.length<=40:=λy hy=>by
   rcases aG.mp hy with rfl|z
   ·exact z40
   ·obtain⟨s,hs,rfl⟩:=bA.mp z;exact(aCh<|S.ok s hs).1
  refine jY 2 rfl ?_;refine aS<|kW (pZ (z:=nlT) (ss:=szT p::L.map lnS) (pdv 2)<|xO wb ?_);rw[bM,aD];have:nlT.length=1:=rfl;rw[this];omega
theorem e_len{x:Str}:x=Str.empty↔x.length=0:=⟨λh=>by rw[h];rfl,λh=>Str.ext'<|by simpa[Str.empty,Str.length] using h⟩
theorem ee:("":Str)=Str.empty:=by decide+kernel
def aMO:List D->R->Prop:=λds r=>∃x,ds=[.str x]/\Asc x 9000/\r=.val (.int<|fgI x)
abbrev nl6:List Str:=["_law_word"]
theorem aEy(F:FI K mg "_law_figure" aMm)(zlen:mg "len"=none)(zint:mg "int"=none):bP P w K mg base "_law_figure" 1 1 aMO:=by
 have nd2:(["_law_sign"]:List Str).Nodup:=by decide+kernel
 refine dL (N:=nl6) (ps:=nl6) (k:=0) F λf nd cdv A outer s H E hr ds r hl c=> ?_
 obtain⟨x,rfl,hx,rfl⟩:=c;have hu:=uN hr 8;have asc:=hx.all;have l9:x.length<=100000:=aQ hx.2<|by decide
 have no:(∀n,n<100->x≠bZ n)->fgI x= -1:=λh=>by
  unfold fgI;cases e:fgQ x with
  |none=>rfl
  |some n=>exact absurd (kB e).2<|h n (kB e).1
 by_cases h0:x=Str.empty
 ·refine aE (eG (k:=true) (PWd.pt<|dN (k:=true) (j:=true) (iA (pdv 0) bO rfl rfl rfl ?_) λz=>nomatch z) rfl (aS<|bY (iM aP) trivial ?_))
  ·rw[h0,<-ee];simp
  ·rw[no λn hn e=>by have:=(qN n hn).1.2;rw[<-e,h0] at this;exact absurd this<|by decide]
 have e0:decide (V.str x=V.str ("":Str))=false:=by rw[oO,ee];exact decide_eq_false h0
 by_cases h2:2<x.length
 ·refine aE (eG (k:=true) (PWd.pt (dN (k:=false) (j:=true) (iA (pdv 0) bO rfl rfl rfl e0) λ_=>dN (k:=true) (j:=true) (PTd.cast (iU aHI (qM rfl zlen (pdv 0) l9) aP<|eK _) ?_) λz=>nomatch z)) rfl (aS<|bY (iM aP) trivial ?_))
  ·exact decide_eq_true<|by omega
  ·rw[no λn hn e=>by have:=(qN n hn).1.1;rw[<-e] at this;omega]
 have h12:1<=x.length/\x.length<=2:=⟨Nat.pos_of_ne_zero λz=>h0<|e_len.mpr z,by omega⟩;have g2:decide (((x.length:Nat):Int)>2)=false:=decide_eq_false (by omega);obtain⟨c0,hc0⟩:=at0 h12.1;refine aE<|cX (k:=decide (c0=48)&&!decide (x=bZ 0)) (PWd.pt<|PWd.cast (dN (k:=false) (j:=decide (c0=48)&&!decide (x=bZ 0)) (iA (pdv 0) bO rfl rfl rfl e0) λ_=>PWd.cast (dN (k:=false) (j:=decide (c0=48)&&!decide (x=bZ 0)) (PTd.cast (iU aHI (qM rfl zlen (pdv 0) l9) aP<|eK _) g2) λ_=>fU<|PWd.pt (aCo (k:=decide<|c0=48) (j:= !decide (x=bZ 0)) (iA (aCc (pdv 0) aP l9 hc0 λ_ _=>rfl) bO rfl rfl rfl c48) λ_=>aAr<|jZ (pdv 0) bO rfl rfl rfl ?_)) ?_) ?_) (λh=>aS<|bY (iM aP) trivial ?_) λh48=>cN ?_
 ·rw[z48,oO]
 ·cases(decide (c0=48)&&!decide (x=bZ 0))<;>rfl
 ·cases(decide (c0=48)&&!decide (x=bZ 0))<;>rfl
 ·simp only[aR,decide_eq_true_eq,gB,decide_eq_false_iff_not] at h
  rw [no fun n hn e=>by
   obtain⟨_,c,h1,h2⟩:=qV hn;rw[e] at hc0;rw[h1] at hc0;cases hc0
   exact h.2 (by rw[e,h2.mp h.1])]
 have ef:(lG x).filter (λd=> !sgB d)=[]↔(x.cps.toList.all λc=>decide (48<=c)&&decide (c<58))=true:=by
  unfold lG;rw[List.filter_eq_nil_iff,bJ]
  constructor
  ·intro q c hc;have:=q _<|bT hc;simpa[sgB] using this
  ·intro q d hd;obtain⟨c,hc,rfl⟩:=bA.mp hd;have:=q c hc;simpa[sgB] using this
 have el:∀l:List D,deq (.lst l) (.lst [])=decide (l=[]):=λl=>by cases l<;>simp[deq,jR]
 have eP:plL ((lG x).filter λd=> !sgB d)=true:=by
  have:∀l:List D,(∀d∈l,∃z,d=.str z)->plL l=true:=λl=>by
   induction l with
   |nil=>intro _;rfl
   |cons d l ih=>intro q;obtain⟨z,rfl⟩:=q d aM;simp only[plL,pl,rD];exact ih λd hd=>q d<|aH _ hd
  refine this _ λd hd=> ?_
  obtain⟨c,_,rfl⟩:=bA.mp (nF.mp hd).1;exact⟨_,rfl⟩
 have eD:lY ((lG x).filter λd=> !sgB d)<=1:=by
  have:∀l:List D,(∀d∈l,∃z,d=.str z)->lY l<=1:=λl=>by
   induction l with
   |nil=>intro _;simp[lY]
   |cons d l ih=>
    intro q;obtain⟨z,rfl⟩:=q d aM;have:=ih λd hd=>q d<|aH _ hd
    simp only[lY,dep];omega
  refine this _ λd hd=> ?_
  obtain⟨c,_,rfl⟩:=bA.mp (nF.mp hd).1;exact⟨_,rfl⟩
 refine aE<|cX (k:= !decide ((lG x).filter (λd=> !sgB d)=[])) (PTd.cast (aDy (ra:=.val (.lst<|(lG x).filter λd=> !sgB d)) (rb:=.val<|.lst []) (PEd.val (PEd.cast (pdC (ds:=lG x) (N:=["_law_sign"]) (M:=nl6) (cap:=[none]) (sc:=bE aMm) (Tb:=λd=>[.val d]) (λd=> !sgB d) (λd=>d) (aCQ (pdv 0) asc) (by unfold lG;rw[aD,cY];exact aQ h12.2<|by decide) (λcl C fp s H d hd=>.inr ⟨_,rfl, ?_⟩) λcl C fp s H d hd _=>(pdv 0))<|by rw[List.map_id'])) (PEd.val (kM (ds:=[]) aN<|bU _)) trivial trivial (.inr ⟨rfl,rfl⟩) (by simpa only[R.toD,pl] using eP) rfl ?_) ?_) (λh=>aS<|bY (iM aP) trivial ?_) λh=>cN ?_
 ·obtain⟨c,hc,rfl⟩:=bA.mp hd;refine PTd.cast (aEX (pdv 0) bO) ?_;rw[show(Str.ofString "0123456789":Str)=figT from rfl,aCy c<|hx.1 c hc];rfl
 ·show(A.deeper<|Ak "_law_figure" (bE aMm) s.heap.objs.size f cdv).units+dep (.lst<|(lG x).filter λd=> !sgB d)+1<AN;simp only[dep];omega
 ·show(!deq (.lst _) (.lst []))=_;rw[el]
 ·rw[no λn hn e=> ?_];have h:¬ (lG x).filter (λd=> !sgB d)=[]:=by simpa using h
  exact h (ef.mpr<|by rw[e];exact(qV hn).1)
 have hd:=ef.mp (by simpa using h)
 obtain⟨n,hn,e⟩:=aCN h12.1 h12.2 hd λc hc e=>by
  rw[hc0] at hc;cases hc;rw[decide_eq_true e] at h48;have h:decide (x=bZ 0)=true:=by simpa using h48
  exact of_decide_eq_true h
 subst e;rw[nN hn];exact aS (kW<|aCM rfl zint (pdv 0) hn)
noncomputable def szO(x:Str):D:=match szF x with
 |some p=>bW p
 |none=>.non
def aJT:List D->R->Prop:=λds r=>∃x,ds=[.str x]/\Asc x 9000/\r=.val (szO x)
theorem aDR(F:FI K mg "_law_size_of" aJU)(zlen:mg "len"=none)(GF:bP P w K mg base "_law_figure" 1 1 aMO):bP P w K mg base "_law_size_of" 2 1 aJT:=by
 refine dL (N:=["_law_line","_law_words","_law_bits","_law_boxes"]) (ps:=["_law_line"]) (k:=1) F λf nd cdv A outer s H E hr ds r hl c=> ?_
 obtain⟨x,rfl,hx,rfl⟩:=c;have cnt:=iQ (c:=32) hx;have sa:∀p∈Txt.split x spT,Asc p 9000:=λp hp=>iP hx hp
 refine aE<|fM (d:=.lst<|(Txt.split x spT).map D.str) 1 (PEd.val<|hJ (y:=spT) (pdv 0) bO (by decide) (aQ hx.2<|by decide) (aQ cnt<|by decide)) ?_;have cnt':(Txt.split x spT).length<=9001:=cnt;have none_:szF x=none->szO x=.non:=λh=>by unfold szO;rw[h]
 by_cases h4:(Txt.split x spT).length=4
 ·obtain⟨w0,w1,w2,w3,eW⟩:∃a b c d,Txt.split x spT=[a,b,c,d]:=by
   generalize Txt.split x spT=W at h4
   match W,h4 with
   |[a,b,c,d],_=>exact⟨a,b,c,d,rfl⟩
  rw[eW] at sa ⊢;refine aE<|cX (k:= !(decide (w0=("bits":Str))&&decide (w2=("boxes":Str)))) (PWd.pt<|PWd.cast (dN (k:=false) (j:= !(decide (w0=("bits":Str))&&decide (w2=("boxes":Str)))) (PTd.cast (iD (dR rfl zlen (PEd.bor<|pdv 1)) aP) rfl) λ_=>PWd.cast (dN (k:= !decide (w0=("bits":Str))) (j:= !decide (w2=("boxes":Str))) (jZ (d1:=.str w0) (eU (n:=0) (PEd.bor<|pdv 1) aP rfl λ_ _=>rfl) bO rfl rfl rfl<|by rw[oO]) λ_=>fU (jZ (d1:=.str w2) (eU (n:=2) (PEd.bor<|pdv 1) aP rfl λ_ _=>rfl) bO rfl rfl rfl<|by rw[oO])) ?_) ?_) (λh=>aS<|bY eV trivial ?_) λh=>cN ?_
  ·cases decide (w0=("bits":Str))<;>cases decide (w2=("boxes":Str))<;>rfl
  ·cases decide (w0=("bits":Str))<;>cases decide (w2=("boxes":Str))<;>rfl
  ·rw[none_<|aJS ?_];cases z:szW (Txt.split x spT) with
   |false=>rfl
   |true=>obtain⟨_,_,e⟩:=aBJ z;rw[eW] at e;cases e;exact absurd h<|by simp
  ·have e:w0=("bits":Str)/\w2=("boxes":Str):=by cases q0:decide (w0=("bits":Str))<;>cases q2:decide (w2=("boxes":Str))<;>rw[q0,q2] at h<;>first|exact⟨of_decide_eq_true q0,of_decide_eq_true q2⟩|cases h
   obtain⟨rfl,rfl⟩:=e;have b1:=aHa w1;have b3:=aHa w3;refine aE<|fM (d:=.int<|fgI w1) 2 (pdc (ds:=[.str w1]) GF hr (aB (eU (n:=1) (PEd.bor<|pdv 1) aP rfl λ_ _=>rfl) aN) ⟨w1,rfl,sa w1<|by simp,rfl⟩) ?_;refine aE<|fM (d:=.int<|fgI w3) 3 (pdc (ds:=[.str w3]) GF hr (aB (eU (n:=3) (PEd.bor<|pdv 1) aP rfl λ_ _=>rfl) aN) ⟨w3,rfl,sa w3<|by simp,rfl⟩) ?_;refine aE<|cX (k:=decide (fgI w1<1)||(decide (fgI w3<1)||decide (fgI w1*fgI w3>6))) (PWd.pt<|dN (iU oG (pdv 2) aP<|eK _) λ_=>dN (iU oG (pdv 3) aP<|eK _) λ_=>fU (iU aHI (cP fV (pdv 2) (pdv 3) (mW (by omega)<|by omega)) aP<|eK _)) (λh=>aS<|bY eV trivial ?_) λh=>cN ?_
   ·rw[none_ ?_];cases z:szF x with
    |none=>rfl
    |some p=>exfalso;obtain⟨m1,m2⟩:=jL z;obtain⟨z1,z2,z3,z4,z5⟩:=sG p m1;have e:=(uB p m1).1;rw[<-m2,eW] at e;cases e;rw[nN<|by omega,nN<|by omega,eQ<|by omega,eQ<|by omega] at h;simp only[jI,decide_eq_true_eq] at h;omega
   ·simp only[oK,decide_eq_false_iff_not] at h;obtain⟨n,hn,e1,f1⟩:=nY (x:=w1) (by omega);obtain⟨m,hm',e3,f3⟩:=nY (x:=w3) (by omega)
    have q3:((n*m:Nat):Int)<=6:=by
     have:=h.2.2;rw[f1,f3] at this
     push_cast
     omega
    have ez:=aDe eW e1 e3 (by omega) (by omega)<|by omega
    have eo:szO x=.tup [.int<|fgI w1,.int<|fgI w3]:=by unfold szO;rw[ez,f1,f3];rfl
    rw[eo];exact aS (kW<|pdT (ds:=[.int<|fgI w1,.int<|fgI w3]) (aB (pdv 2)<|aB (pdv 3) aN))
 ·refine aE (eG (k:=true) (PWd.pt<|dN (k:=true) (j:=true) (PTd.cast (iD (dR rfl zlen (PEd.bor<|pdv 1)) aP) ?_) λz=>nomatch z) rfl (aS<|bY eV trivial ?_))
  ·rw[aD];have:¬ (((Txt.split x spT).length:Nat):Int)=4:=by omega
   simp[this]
  ·rw[none_<|aJS ?_];cases z:szW (Txt.split x spT) with
   |false=>rfl
   |true=>obtain⟨_,_,e⟩:=aBJ z;rw[e] at h4;exact absurd rfl h4
noncomputable def wdS(s:SK):List Str:=stW s.1.1 s.1.2.1.toNat (jnQ s.1).toNat++[("price":Str),bZ s.2.toNat]
theorem aFU{p:Int×Int}{s:SK}(h:lT p s):Txt.split (lnS s) spT=wdS s:=by
 obtain⟨s1,s2,s3,s4⟩:=gK h.1;have p1:=h.2.1;have p9:=h.2.2;refine oX 32 (by simp) λq hq=> ?_
 rcases aW.mp hq with z|z
 ·exact(tY (nQ s1 s2 s3).2.1 q z).1
 ·simp only[aG,bD,or_false] at z
  rcases z with rfl|rfl
  ·decide+kernel
  ·have:=(qN s.2.toNat<|by omega).2;simpa using this
theorem aJl{x:Str}{s:SK}(e:Txt.split x spT=wdS s):x=lnS s:=by have ea:=StrLaws.join_split x spT;rw[e] at ea;rw[<-ea];show _=Builtin.Str.glued _ _;rw[StrLaws.glued_eq_join];rfl
noncomputable def prO(p:Int×Int)(x:Str):D:=match lnF p x with
 |some s=>skD s
 |none=>.non
theorem tZ{p:Int×Int}{x:Str}(h:∀s,lT p s->Txt.split x spT=wdS s->False):prO p x=.non:=by
 unfold prO;cases e:lnF p x with
 |none=>rfl
 |some s=>obtain⟨a,b⟩:=pH e;exact(h s a<|by rw[b];exact aFU a).elim
theorem aCe{p:Int×Int}{x:Str}{s:SK}(hs:lT p s)(e:Txt.split x spT=wdS s):prO p x=skD s:=by obtain⟨s',h1,h2⟩:=aGF hs;unfold prO;rw[aJl e,h1];exact h2
noncomputable def manyK:List (Key×V):=[(.inr "and",.int 2),(.inr "or",.int 2),(.inr "xor",.int 2),(.inr "add",.int 2),(.inr "take",.int 2),(.inr "copy",.int 2),(.inr "put",.int 2),(.inr "not",.int 1),(.inr "up",.int 1),(.inr "down",.int 1)]
theorem aLL:mY [] manyK=manyK:=by decide+kernel
noncomputable def mnI(k:Nat):Nat:=if k<7 then 2 else 1
theorem aGV:∀k,k<10->mM manyK (.inr<|nm k)=some (.int ((mnI k:Nat):Int)):=by decide+kernel
theorem aLm:(manyK.all λkv=>(cI 10).any λk=>decide<|kv.1=.inr (nm k))=true:=by decide+kernel
theorem aKA{x:Str}(h:¬ ∃k,k<10/\x=nm k):mM manyK (.inr x)=none:=by unfold mM;rw[Option.map_eq_none_iff,kH];intro kv hkv hd;have e:kv.1=.inr x:=of_decide_eq_true hd;obtain⟨k,hk,q⟩:=eY.mp<|bJ.mp aLm kv hkv;have q:kv.1=.inr (nm k):=of_decide_eq_true q;rw[e] at q;exact h ⟨k,cE.mp hk,Sum.inr.inj q⟩
theorem aGA:∀k,k<10->∀j,j<10->nm k=nm j->k=j:=by decide+kernel
noncomputable def bdF(p:Int×Int)(k j:Nat):Int:=if j=0 then p.2 else if k=6 then((2^p.1.toNat:Nat):Int) else p.2
theorem aEP{p:Int×Int}{s:SK}{k:Nat}{ws:List Str}{wq wp:Str}(hs:lT p s)(hk:k<10)(e:nm k::(ws++[wq,wp])=wdS s):ws.length=mnI k/\wq=("price":Str)/\(1<=fgI wp/\fgI wp<=9)/\∀j,j<ws.length->0<=fgI (ws.getD j Str.empty)/\fgI (ws.getD j Str.empty)<bdF p k j:=by
 obtain⟨s1,s2,s3,s4⟩:=gK hs.1;have p1:=hs.2.1;have p9:=hs.2.2;have i0:=hs.1.i0;have j0:=hs.1.j0;have n0:=hs.1.n0;have ep:fgI (bZ s.2.toNat)=s.2:=by rw[nN<|by omega];omega
 have ei:fgI (bZ s.1.2.1.toNat)=s.1.2.1:=by rw[nN<|by omega];omega
 have ej:fgI (bZ (jnQ s.1).toNat)=jnQ s.1:=by rw[nN<|by omega];omega
 unfold wdS stW at e
 split at e
 ·rename_i h7;have e:nm k::(ws++[wq,wp])=[nm s.1.1,bZ s.1.2.1.toNat,bZ (jnQ s.1).toNat,("price":Str),bZ s.2.toNat]:=e;have ek:=aGA k hk _ s1 (iF.inj e).1;have e2:ws++[wq,wp]=[bZ s.1.2.1.toNat,bZ (jnQ s.1).toNat]++[("price":Str),bZ s.2.toNat]:=(iF.inj e).2;obtain⟨e3,e4⟩:=aJv e2 rfl;cases e4;subst e3;refine⟨by unfold mnI;rw[ek,if_pos h7];rfl,rfl,by rw[ep];exact⟨p1,p9⟩,λj hj=> ?_⟩
  match j,hj with
  |0,_=>show 0<=fgI (bZ s.1.2.1.toNat)/\fgI (bZ s.1.2.1.toNat)<bdF p k 0;rw[ei];exact i0
  |1,_=>
   show 0<=fgI (bZ (jnQ s.1).toNat)/\fgI (bZ (jnQ s.1).toNat)<bdF p k 1;rw[ej];refine⟨s4, ?_⟩
   have eb:bdF p k 1=if s.1.1=6 then((2^p.1.toNat:Nat):Int) else p.2:=by unfold bdF;rw[if_neg<|by decide,ek]
   rw[eb];unfold jnQ
   by_cases h6:s.1.1<6
   ·rw[if_pos h6,if_neg (show ¬ s.1.1=6 by omega)];exact j0.2
   ·rw[if_neg h6,if_pos (show s.1.1=6 by omega)];exact n0.2
  |j+2,hj=>exact absurd hj<|by simp
 ·rename_i h7;have e:nm k::(ws++[wq,wp])=[nm s.1.1,bZ s.1.2.1.toNat,("price":Str),bZ s.2.toNat]:=e;have ek:=aGA k hk _ s1 (iF.inj e).1;have e2:ws++[wq,wp]=[bZ s.1.2.1.toNat]++[("price":Str),bZ s.2.toNat]:=(iF.inj e).2;obtain⟨e3,e4⟩:=aJv e2 rfl;cases e4;subst e3;refine⟨by unfold mnI;rw[ek,if_neg h7];rfl,rfl,by rw[ep];exact⟨p1,p9⟩,λj hj=> ?_⟩
  match j,hj with
  |0,_=>show 0<=fgI (bZ s.1.2.1.toNat)/\fgI (bZ s.1.2.1.toNat)<bdF p k 0;rw[ei];exact i0
  |j+1,hj=>exact absurd hj<|by simp
noncomputable def fgD(x:Str):D:=.int<|fgI x
theorem aLo{p:Int×Int}(hp:p∈sizes14){x:Str}{k:Nat}{ws:List Str}{wp:Str}(hk:k<10)(e:Txt.split x spT=nm k::(ws++[("price":Str),wp]))(hl:ws.length=mnI k)(h9:1<=fgI wp/\fgI wp<=9)(h:∀j,j<ws.length->0<=fgI (ws.getD j Str.empty)/\fgI (ws.getD j Str.empty)<bdF p k j):prO p x=.tup [.tup (.str (nm k)::ws.map fgD),.int<|fgI wp]:=by
 obtain⟨z1,z2,z3,z4,z5⟩:=sG p hp;have pw:=pw0 p.1.toNat;obtain⟨n,hn,rfl,f1⟩:=nY (x:=wp) (by omega);unfold mnI at hl
 by_cases h7:k<7
 ·rw[if_pos h7] at hl
  match ws,hl with
  |[a,b],_=>
   have h0:0<=fgI a/\fgI a<p.2:=h 0 (by simp);have h1:0<=fgI b/\fgI b<bdF p k 1:=h 1 (by simp);obtain⟨i,hi,rfl,e1⟩:=nY (x:=a) h0.1;obtain⟨j,hj,rfl,e2⟩:=nY (x:=b) h1.1;have b1:bdF p k 1=if k=6 then((2^p.1.toNat:Nat):Int) else p.2:=by unfold bdF;rw[if_neg<|by decide]
   rw[b1] at h1
   by_cases h6:k=6
   ·subst h6;rw[if_pos rfl,e2] at h1;rw[e1] at h0;rw[aCe (s:=((6,(i:Int),0,(j:Int)),(n:Int))) ⟨⟨hp,hk,h0,⟨iH 0,(by omega:(0:Int)<p.2)⟩,h1⟩,by rw[<-f1];exact h9⟩<|by rw[e];rfl];show D.tup [.tup [.str<|nm 6,.int (i:Int),.int (j:Int)],.int (n:Int)]=_;rw[f1];show _=D.tup [.tup [.str<|nm 6,.int (fgI<|bZ i),.int (fgI<|bZ j)],.int (n:Int)];rw[e1,e2]
   ·rw[if_neg h6,e2] at h1;rw[e1] at h0;have hq:k<6:=by omega
    rw [aCe (s:=((k,(i:Int),(j:Int),0),(n:Int))) ⟨⟨hp,hk,h0,h1,⟨iH 0,pw⟩⟩,by rw [← f1]; exact h9⟩ (by
     rw[e];unfold wdS stW jnQ;show _=(if k<7 then _ else _)++_;rw[if_pos h7];show _=[nm k,bZ ((i:Int)).toNat,bZ (if k<6 then(j:Int) else 0).toNat]++[("price":Str),bZ ((n:Int)).toNat];rw[if_pos hq]
     rfl)]
    show D.tup [lD k (i:Int) (j:Int) 0,.int (n:Int)]=_;unfold lD;rw[if_pos hq,f1];show _=D.tup [.tup [.str<|nm k,.int (fgI<|bZ i),.int (fgI<|bZ j)],.int (n:Int)];rw[e1,e2]
 ·rw[if_neg h7] at hl
  match ws,hl with
  |[a],_=>
   have h0:0<=fgI a/\fgI a<p.2:=h 0 (by simp);obtain⟨i,hi,rfl,e1⟩:=nY (x:=a) h0.1;rw[e1] at h0
   rw [aCe (s:=((k,(i:Int),0,0),(n:Int))) ⟨⟨hp,hk,h0,⟨iH 0,(by omega:(0:Int)<p.2)⟩,⟨iH 0,pw⟩⟩,by rw [← f1]; exact h9⟩ (by
    rw[e];unfold wdS stW;show _=(if k<7 then _ else _)++_;rw[if_neg h7]
    rfl)]
   show D.tup [lD k (i:Int) 0 0,.int (n:Int)]=_;unfold lD;rw[if_neg<|by omega,if_neg<|by omega,f1];show _=D.tup [.tup [.str<|nm k,.int (fgI<|bZ i)],.int (n:Int)];rw[e1]
theorem aGE{l:List Str}{m:Nat}(h:l.length=m+2):∃ws wq wp,l=ws++[wq,wp]/\ws.length=m:=by
 refine⟨l.take m,l.getD m Str.empty,l.getD (m+1) Str.empty, ?_,by rw[eC];omega⟩
 have:l.drop m=[l.getD m Str.empty,l.getD (m+1) Str.empty]:=by
  refine List.ext_getElem? λi=> ?_
  rw[List.getElem?_drop]
  match i with
  |0=>simp[dS,bN (show m<l.length by omega)]
  |1=>simp[dS,bN (show m+1<l.length by omega)]
  |i+2=>rw[eA<|by omega];rfl
 rw[<-this,iS]
def aOe:List D->R->Prop:=λds r=>∃p x,p∈sizes14/\Asc x 9000/\ds=[bW p,.str x]/\r=.val (prO p x)
noncomputable def fgS:D->D
 |.str x=>fgD x
 |_=>.non
abbrev nl7:List Str:=["_law_size_here","_law_line","_law_words","_law_many","_law_numbers","_law_bounds","_law_number","_law_most"]
set_option maxHeartbeats 1000000 in
theorem aDQ(F:FI K mg "_law_priced" aNe)(zlen:mg "len"=none)(zzip:mg "zip"=none)(ztuple:mg "tuple"=none)(GF:bP P w K mg base "_law_figure" 1 1 aMO):bP P w K mg base "_law_priced" 2 2 aOe:=by
 have nd2:nl6.Nodup:=by decide+kernel
 refine dL (N:=nl7) (ps:=["_law_size_here","_law_line"]) (k:=1) F λf nd cdv A outer s H E hr ds r hl c=> ?_
 obtain⟨p,x,hp,hx,rfl,rfl⟩:=c;obtain⟨z1,z2,z3,z4,z5⟩:=sG p hp;have hu:=uN hr 1;have cnt:=iQ (c:=32) hx;have sa:∀q∈Txt.split x spT,Asc q 9000:=λq hq=>iP hx hq
 have ne:=hR x spT;refine aE<|fM (d:=.lst<|(Txt.split x spT).map D.str) 2 (PEd.val<|hJ (y:=spT) (pdv 1) bO (by decide) (aQ hx.2<|by decide) (aQ cnt<|by decide)) ?_;refine aE<|fM (d:=.any<|dkG manyK) 3 (PEd.cast (aFh (kvs:=manyK) (gL pe_str pe_int<|gL pe_str pe_int (gL pe_str pe_int<|gL pe_str pe_int (gL pe_str pe_int<|gL pe_str pe_int (gL pe_str pe_int<|gL pe_str pe_int (gL pe_str pe_int<|gL pe_str pe_int aHY))))) λσ H Q q=>q)<|by rw[aLL]) ?_;have cnt':(Txt.split x spT).length<=9001:=cnt
 obtain⟨w0,l,eW⟩:∃w l,Txt.split x spT=w::l:=by
  cases q:Txt.split x spT with
  |nil=>exact absurd q ne
  |cons w l=>exact⟨w,l,rfl⟩
 rw[eW] at sa cnt' ⊢
 have ll:l.length<=9000:=by have:l.length+1<=9001:=cnt';omega
 by_cases hk:∃k,k<10/\w0=nm k
 ·obtain⟨k,hk,rfl⟩:=hk;have mn:mnI k=1\/mnI k=2:=by unfold mnI;split<;>simp
  by_cases hl5:l.length=mnI k+2
  ·obtain⟨ws,wq,wp,rfl,wl⟩:=aGE hl5
   have a2:L2.atI ((nm k::(ws++[wq,wp])).map D.str) (-2)=some (.str wq):=by
    rcases mn with e|e
    ·match ws,wl.trans e with | [a],_=>rfl
    ·match ws,wl.trans e with | [a,b],_=>rfl
   have a1:L2.atI ((nm k::(ws++[wq,wp])).map D.str) (-1)=some (.str wp):=by
    rcases mn with e|e
    ·match ws,wl.trans e with | [a],_=>rfl
    ·match ws,wl.trans e with | [a,b],_=>rfl
   have ac:DL.cutD ((nm k::(ws++[wq,wp])).map D.str) (some 1) (some (-2))=ws.map D.str:=by
    rcases mn with e|e
    ·match ws,wl.trans e with | [a],_=>rfl
    ·match ws,wl.trans e with | [a,b],_=>rfl
   have t1:decide (¬ (((mnI k:Nat):Int)+3=(((nm k::(ws++[wq,wp])).map D.str).length:Int)))=false:=by rw[aD,bM,aU,wl];exact decide_eq_false (by simp;omega)
   refine aE<|cX (k:= !decide (wq=("price":Str))) (PWd.pt (PWd.cast (dN (k:=false) (j:= !decide (wq=("price":Str))) (PTd.cast (iD (iJ fR (yH hu (pdv 3) (eU (n:=0) (PEd.bor<|pdv 2) aP rfl λ_ _=>rfl) (iM aP)<|by rw[aGV k hk];rfl) aP)<|dR rfl zlen (PEd.bor<|pdv 2))<|by simpa using t1) λ_=>fU (jZ (d1:=.str wq) (xV (i:= -2) (PEd.bor<|pdv 2) (iM aP) a2 λ_ _=>rfl) bO rfl rfl rfl<|by rw[oO]))<|by rw[aMB])) (λh=>aS<|bY eV trivial ?_) λh=>cN ?_
   ·rw[tZ λs' hs e=> ?_];rw[eW] at e;have h:wq≠("price":Str):=by simpa using h
    exact h (aEP hs hk e).2.1
   have h:wq=("price":Str):=by simpa using h
   subst h;have wl2:ws.length<=2:=by omega
   refine aE<|aFD (ds:=ws.map D.str) 4 (N:=nl6) (M:=nl7) (cap:=[none]) (sc:=bE aNe) (Tb:=λd=>[.val d]) (λ_=>true) fgS rfl nd rfl rfl rfl (gO<|PEd.val (PEd.cast (aCf (ol:=some 1) (oh:=some (-2)) (PEd.bor<|pdv 2) aP<|iM aP)<|by rw[ac])) (by rw[aD];omega) rfl (by decide+kernel) rfl (by decide+kernel) rfl (λcl C fp s H d _=>pgN 0) (λd _=>⟨.inl rfl,trivial⟩) (λcl C fp s H d hd=>.inl ⟨rfl,rfl⟩) (λcl C fp s H d hd _=> ?_) λl4=>jY 4 rfl ?_
   ·obtain⟨v,hv,rfl⟩:=bA.mp hd;exact pdc (ds:=[.str v]) (r:=.val<|fgD v) GF hr (aB (pdv 0) aN) ⟨v,rfl,sa v (aH _<|bH _ hv),rfl⟩
   have ew:((ws.map D.str).filter λ_=>true).map fgS=ws.map fgD:=by rw[dU.mpr λ_ _=>rfl,cJ];rfl
   rw[ew];refine rM (sd':=[.val<|bW p,.val<|.str x,.val (.lst<|(nm k::(ws++[("price":Str),wp])).map D.str),.val (.any<|dkG manyK),.val (.lst<|ws.map fgD),.un,.un,.un]) (Le.refl _) ?_;refine aE<|pE (ds:=[.int p.2,.int p.2]) 5 (pdL (ds:=[.int p.2,.int p.2]) (aB (pdx (n:=1) (d:=.int p.2)<|pdv 0)<|aB (pdx (n:=1) (d:=.int p.2)<|pdv 0) aN)) λl5=> ?_;refine aNL (K:=∀b,b=bdF p k 1->PSd _ [.val<|bW p,.val<|.str x,.val (.lst<|(nm k::(ws++[("price":Str),wp])).map D.str),.val (.any<|dkG manyK),.val (.lst<|ws.map fgD),.own l5 [.int p.2,.int b],.un,.un] _ _) (λkey=>aE (cX (k:=decide<|k=6) (iA (d1:=.str<|nm k) (eU (n:=0) (PEd.bor<|pdv 2) aP rfl λ_ _=>rfl) bO rfl rfl rfl ?_) (λh=>aS (xA (n:=1) (d:=.int ((2^p.1.toNat:Nat):Int)) 5 rfl (pv 5) (nK (i:=p.1) (d:=.int ((2^p.1.toNat:Nat):Int)) (PEd.bor<|PEd.val (pdL (ds:=[.int 1,.int 2,.int 4,.int 8,.int 16,.int 32,.int 64])<|aB aP (aB aP<|aB aP (aB aP<|aB aP (aB aP<|aB aP aN))))) (pdx (n:=0)<|pdv 0) (by omega) (aCY _<|by omega) λ_ _=>rfl) aP (cG rfl)<|key _ ?_)) λh=>cN<|key _ ?_)) ?_
   ·have g:∀k,k<10->decide (V.str (nm k)=V.str ("put":Str))=decide (k=6):=by decide+kernel
    exact g k hk
   ·unfold bdF;rw[if_neg<|by decide,if_pos<|of_decide_eq_true h]
   ·unfold bdF;rw[if_neg<|by decide,if_neg<|of_decide_eq_false h]
   intro b hb;refine jY 5 rfl ?_
   have gb:∀j (y:D),([.int p.2,.int b]:List D)[j]? =some y->y=.int (bdF p k j):=λj y h=>by
    match j with
    |0=>cases h;rfl
    |1=>cases h;rw[hb]
    |j+2=>cases h
   refine aE<|pW (ds:=aJB (ws.map fgD) [.int p.2,.int b]) (λt sd=>(∀j,j<t->0<=fgI (ws.getD j Str.empty)/\fgI (ws.getD j Str.empty)<bdF p k j)/\sd=[.val<|bW p,.val<|.str x,.val (.lst<|(nm k::(ws++[("price":Str),wp])).map D.str),.val (.any<|dkG manyK),.val (.lst<|ws.map fgD),.val<|.lst [.int p.2,.int b],.un,.un]) (aIB false false rfl zzip (pdv 4)<|pdv 5) ⟨_,Le.refl _,λj hj=>by omega,rfl⟩ (λt d sdt hd ht=> ?_) λsdn hn=> ?_
   ·obtain⟨hj,rfl⟩:=ht;obtain⟨y,z,e1,e2,rfl⟩:=aAI hd;have e2:=gb t z e2;subst e2;rw[bQ] at e1;obtain⟨v,ev,e1⟩:=iI.mp e1;subst e1;have eg:ws.getD t Str.empty=v:=by simp[dS,ev]
    refine⟨_,nV (js:=[6,7]) rfl (dO (pgn 6)<|dO (pgn 7) kE) rfl rfl, ?_⟩;refine aS<|cX (k:=decide (fgI v<0)||decide (fgI v>=bdF p k t)) (PWd.pt<|dN (iU oG (i:=fgI v) (pdv 6) aP<|eK _) λ_=>fU (iU aHK (i:=fgI v) (pdv 6) (pdv 7)<|eK _)) (λh=>aS<|bY eV trivial ?_) λh=>cN ?_
    ·rw[tZ λs' hs e=> ?_];rw[eW] at e;have q:=(aEP hs hk e).2.2.2 t (bF.mp ev).1;rw[eg] at q;simp only[jI,decide_eq_true_eq] at h;omega
    ·simp only[oK,decide_eq_false_iff_not] at h;refine⟨[.val<|bW p,.val<|.str x,.val (.lst<|(nm k::(ws++[("price":Str),wp])).map D.str),.val (.any<|dkG manyK),.val (.lst<|ws.map fgD),.val<|.lst [.int p.2,.int b],.un,.un],⟨.inr rfl,.inr rfl,.inr rfl,.inr rfl,.inr rfl,.inr rfl,.inl rfl,.inl rfl,trivial⟩,λj hj'=> ?_,rfl⟩
     by_cases q:j=t
     ·subst q;rw[eg];omega
     ·exact hj j<|by omega
   ·obtain⟨hall,rfl⟩:=hn;rw[uM,aD] at hall;have hall:∀j,j<ws.length->0<=fgI (ws.getD j Str.empty)/\fgI (ws.getD j Str.empty)<bdF p k j:=λj hj=>hall j (by show j<min ws.length 2;omega)
    have wpa:=sa wp (by simp);refine aE<|cX (k:= !(decide (1<=fgI wp)&&decide (fgI wp<=9))) (dP<|oP mV mV aP (pdc (ds:=[.str wp]) (r:=.val (.int<|fgI wp)) GF hr (aB (xV (i:= -1) (PEd.bor<|pdv 2) (iM aP) a1 λ_ _=>rfl) aN) ⟨wp,rfl,wpa,rfl⟩) aP) (λh=>aS<|bY eV trivial ?_) λh=>cN ?_
    ·rw[tZ λs' hs e=> ?_];rw[eW] at e;have q:=(aEP hs hk e).2.2.1;rw[decide_eq_true q.1,decide_eq_true q.2] at h;cases h
    have h9:1<=fgI wp/\fgI wp<=9:=by simpa using h
    rw[aLo hp hk eW wl h9 hall];exact aS (kW<|pdT (ds:=[.tup (.str (nm k)::ws.map fgD),.int<|fgI wp]) (aB (wP rfl ztuple (PEd.bor<|PEd.val (gQ (d1:=[.str<|nm k]) (d2:=ws.map fgD) (PEd.bor<|PEd.val (pdL (ds:=[.str<|nm k])<|aB (eU (n:=0) (PEd.bor<|pdv 2) aP rfl λ_ _=>rfl) aN)) (PEd.bor<|pdv 4)<|by rw[aD];show 1+_<=10000;omega)))<|aB (pdc (ds:=[.str wp]) (r:=.val (.int<|fgI wp)) GF hr (aB (xV (i:= -1) (PEd.bor<|pdv 2) (iM aP) a1 λ_ _=>rfl) aN) ⟨wp,rfl,wpa,rfl⟩) aN))
  ·refine aE (eG (k:=true) (PWd.pt<|dN (k:=true) (j:=true) (PTd.cast (iD (iJ fR (yH hu (pdv 3) (eU (n:=0) (PEd.bor<|pdv 2) aP rfl λ_ _=>rfl) (iM aP)<|by rw[aGV k hk];rfl) aP)<|dR rfl zlen (PEd.bor<|pdv 2)) ?_) λz=>nomatch z) rfl (aS<|bY eV trivial ?_))
   ·rw[aD,bM];have:¬ ((mnI k:Nat):Int)+3=((l.length+1:Nat):Int):=by omega
    simpa using this
   ·rw[tZ λs' hs e=> ?_];rw[eW] at e;have q:(wdS s').length=l.length+1:=by rw[<-e];rfl
    have l2:2<=l.length:=by have:=(aDh s'.1.1 s'.1.2.1.toNat (jnQ s'.1).toNat).1;unfold wdS at q;rw[aU] at q;simp at q;omega
    obtain⟨ws,wq,wp,rfl,wl⟩:=aGE (l:=l) (m:=l.length-2) (by omega);have:=(aEP hs hk e).1;rw[aU,this] at hl5;exact hl5 rfl
 ·refine aE (eG (k:=true) (PWd.pt<|dN (k:=true) (j:=true) (PTd.cast (iD (iJ fR (yH hu (pdv 3) (eU (n:=0) (PEd.bor<|pdv 2) aP rfl λ_ _=>rfl) (iM aP)<|by rw[aKA hk];rfl) aP)<|dR rfl zlen (PEd.bor<|pdv 2)) ?_) λz=>nomatch z) rfl (aS<|bY eV trivial ?_))
  ·have:¬ (-9:Int)+3=((((w0::l).map D.str).length:Nat):Int):=by omega
   simpa using this
  ·rw[tZ λs' hs e=> ?_];rw[eW] at e;obtain⟨s1,s2,s3,s4⟩:=gK hs.1;refine hk ⟨s'.1.1,s1, ?_⟩;unfold wdS stW at e
   split at e
   ·exact(iF.inj e).1
   ·exact(iF.inj e).1
noncomputable def tlO:Nat ⊕ ((Int×Int)×List SK)->D
 |.inl k=>.tup [.int ((k:Nat):Int),.non]
 |.inr (p,L)=>.tup [.int (-1),.tup [bW p,.lst<|L.map skD]]
theorem aHE{x:Str}{xs:List Str}{p:Int×Int}(h:szF x=some p)(ne:xs≠[]):rlQ (x::xs)=match goL p [] xs with
  |.inl k=>.inl k
  |.inr L=>.inr (p,L):=by
 rw[qP,h];cases xs with
 |nil=>exact absurd rfl ne
 |cons y ys=>rfl
theorem aNt{X:Cx}{sd:List Slot}{Q:Hp->Hp->Prop}{tg iter:Expr}{lo:Int}{n m:Nat}(h:PId X sd Q tg iter (gU lo n))(e:n=m):PId X sd Q tg iter (gU lo m):=e▸h
def aHB:List D->R->Prop:=λds r=>∃x,Asc x 8000/\ds=[.str x]/\r=.val (tlO (rlQ<|Txt.split x nlT))
abbrev nl8:List Str:=["_law_text_here","_law_lines","_law_size_here","_law_stock_here","_law_at","_law_priced_here"]
theorem aEn(F:FI K mg "_law_told" aBM)(zlen:mg "len"=none)(zrange:mg "range"=none)(GZ:bP P w K mg base "_law_size_of" 2 1 aJT)(GP:bP P w K mg base "_law_priced" 2 2 aOe):bP P w K mg base "_law_told" 3 1 aHB:=by
 have nd2:(["_law_step_here","_law_price"]:List Str).Nodup:=by decide+kernel
 refine dL (N:=nl8) (ps:=["_law_text_here"]) (k:=2) F λf nd cdv A outer s H E hr ds r hl c=> ?_
 obtain⟨x,hx,rfl,rfl⟩:=c;have hu:=uN hr 8;obtain⟨ne,l9,sa⟩:=aBO hx;refine aE<|fM (d:=.lst<|(Txt.split x nlT).map D.str) 1 (PEd.val<|hJ (y:=nlT) (pdv 0) bO (by decide) (aQ hx.2<|by decide) (aQ l9<|by decide)) ?_;generalize Txt.split x nlT=W at *
 obtain⟨x0,xs,rfl⟩:∃w l,W=w::l:=by
  cases W with
  |nil=>exact absurd rfl ne
  |cons w l=>exact⟨w,l,rfl⟩
 have l9:xs.length+1<=9000:=l9;refine aE<|fM (d:=szO x0) 2 (pdc (ds:=[.str x0]) GZ hr (aB (eU (n:=0) (PEd.bor<|pdv 1) aP rfl λ_ _=>rfl) aN) ⟨x0,rfl,sa x0 aM,rfl⟩) ?_;cases ez:szF x0 with
 |none=>
  have eo:szO x0=.non:=by unfold szO;rw[ez]
  rw[eo];refine aE<|eG (k:=true) (PTd.cast (nO (d:=.non) (pdv 2) eV) rfl) rfl (aS<|bY (pdT (ds:=[.int 0,.non]) (aB aP<|aB eV aN)) trivial ?_);rw[qP,ez];rfl
 |some p=>
  have eo:szO x0=bW p:=by unfold szO;rw[ez]
  obtain⟨hp,_⟩:=jL ez;rw[eo];refine aHv (PTd.cast (nO (d:=bW p) (pdv 2) eV) rfl) ?_;refine aE<|pE (ds:=[]) 3 (kM (ds:=[]) aN<|bU _) λl3=> ?_;have en:((((xs.length+1:Nat):Int))-1).toNat=xs.length:=by omega
  refine aE<|pW (ds:=gU 1 xs.length) (λt sd=>∃L,zH p xs t L/\sd=[.val<|.str x,.val (.lst<|(x0::xs).map D.str),.val<|bW p,.own l3<|L.map skD,.un,.un]) (aNt (tT (lo:=1) (m:=((xs.length+1:Nat):Int)) rfl zrange aP (PEd.ic (dR rfl zlen (PEd.bor<|pdv 1))<|by rw[aD];rfl) ⟨by decide,by decide⟩ ⟨by omega,by omega⟩) en) ⟨_,Le.refl _,[],aNg p xs,rfl⟩ (λt d sdt hd ht=> ?_) λsdn hn=> ?_
  ·obtain⟨L,G,rfl⟩:=ht;obtain⟨tl,rfl⟩:=fN hd;obtain⟨y,hy⟩:∃y,xs[t]? =some y:=⟨_,bN tl⟩;have ym:y∈xs:=cK hy;have ne':xs≠[]:=λe=>by rw[e] at ym;cases ym
   have l8:=G.ac.l8
   have ty:((x0::xs).map D.str)[1+t]? =some (.str y):=by rw[aOO,bB,List.getElem?_cons_succ,bQ,hy];rfl
   refine⟨_,pgN 4, ?_⟩;refine aE<|fM (d:=prO p y) 5 (pdc (ds:=[bW p,.str y]) GP hr (aB (pdv 2)<|aB (eU (n:=1+t) (PEd.bor<|pdv 1) (PEd.ic (pdv 4)<|by omega) ty λ_ _=>rfl) aN) ⟨p,y,hp,sa y<|aH _ ym,rfl,rfl⟩) ?_
   have stop:goL p [] xs=.inl (t+1)->R.val (.tup [.int<|1+(t:Int),.non])=.val (tlO<|rlQ (x0::xs)):=λh=>by rw[aHE ez ne',h];show _=R.val (.tup [.int ((t+1:Nat):Int),.non]);rw[show((t+1:Nat):Int)=1+(t:Int) by omega]
   cases el:lnF p y with
   |none=>
    have e:prO p y=.non:=by unfold prO;rw[el]
    rw[e];refine aE<|eG (k:=true) (PWd.pt<|dN (k:=true) (j:=true) (PTd.cast (nO (d:=.non) (pdv 5) eV) rfl) λz=>nomatch z) rfl (aS<|bY (pdT (ds:=[.int<|1+(t:Int),.non]) (aB (pdv 4)<|aB eV aN)) trivial ?_);exact stop (pS G hy λs hs=>by rw[el] at hs;cases hs)
   |some q=>
    have e:prO p y=skD q:=by unfold prO;rw[el]
    rw[e]
    have plc:plL ((L.map skD).map iW)=true/\lY ((L.map skD).map iW)<=1:=by rw[cJ];exact⟨mZ (λs:SK=>iW<|skD s) (λs=>uA s.1) _,kS (λs:SK=>iW<|skD s) 1 (λs=>jU<|zL s.1) _⟩
    have ef:((L.map skD).filter λ_=>true).map iW=(L.map skD).map iW:=by rw[dU.mpr λ_ _=>rfl]
    have e8:decide (((L.map skD).length:Int)=8)=decide (L.length=8):=by rw[aD];exact decide_eq_decide.mpr<|by omega
    refine aE<|cX (k:=oB L q||decide (L.length=8)) (PWd.pt (PWd.cast (dN (k:=false) (j:=oB L q||decide (L.length=8)) (PTd.cast (nO (d:=skD q) (pdv 5) eV) rfl) λ_=>dN (k:=oB L q) (j:=decide<|L.length=8) (PTd.lend 3 rfl (wB rfl) (aFr (d:=sqD q.1) (pdx (n:=0) (d:=sqD q.1)<|pdv 5) (PEd.val (PEd.cast (yC (ds:=L.map skD) (N:=["_law_step_here","_law_price"]) (M:=nl8) (cap:=[none,none]) (sc:=bE aBM) (Tb:=λd=>aOt d []) (λ_=>true) iW (gO<|pdv 3) (by rw[aD];omega) rfl (by decide+kernel) rfl (by decide+kernel) rfl (λcl C fp s H d hd=> ?_) (λd hd=> ?_) (λcl C fp s H d hd=>.inl ⟨rfl,rfl⟩) λcl C fp s H d hd _=> ?_)<|by rw[ef])) (uA q.1) plc.1<|by have:=plc.2;show(A.deeper<|Ak "_law_told" (bE aBM) s.heap.objs.size f cdv).units+1+_<AN;omega)) λ_=>fU<|PTd.cast (gP (dR rfl zlen (fJ 3 rfl<|pv 3)) aP) e8)<|by rw[aMB])) (λh=>aS<|bY (pdT (ds:=[.int<|1+(t:Int),.non]) (aB (pdv 4)<|aB eV aN)) trivial ?_) λh=>cN ?_
    ·obtain⟨s,_,rfl⟩:=bA.mp hd;exact nV (js:=[0,1]) rfl (dO (pgn 0)<|dO (pgn 1) kE) rfl rfl
    ·obtain⟨s,_,rfl⟩:=bA.mp hd;exact⟨.inl rfl,.inl rfl,trivial⟩
    ·obtain⟨s,_,rfl⟩:=bA.mp hd;exact(pdv 0)
    ·exact stop (pS G hy fun s hs=>by
      rw[el] at hs;cases hs
      exact h)
    ·rw[oK] at h;refine aS<|iN (d:=skD q) 3 rfl (pv 3) (pdv 5) (by rw[aD];omega) ?_;refine⟨[.val<|.str x,.val (.lst<|(x0::xs).map D.str),.val<|bW p,.own l3<|(L++[q]).map skD,.un,.un],⟨.inr rfl,.inr rfl,.inr rfl,.inr (by rw[aT];rfl),.inl rfl,.inl rfl,trivial⟩,L++[q],yP G hy el h.1<|of_decide_eq_false h.2,rfl⟩
  ·obtain⟨L,G,rfl⟩:=hn;rw[iO] at G;have ge:=aBV G<|aO _;have ll:=G.ln;have l8:=G.ac.l8;refine jY 3 rfl ?_;have plL':pl (lK L)=true:=mZ skD (λs=>by show(pl (sqD s.1)&&(true&&true))=true;rw[uA];rfl) L;have dpL:dep (lK L)<=3:=mO<|kS skD 2 (λs=>by show max (dep<|sqD s.1) (max 0 0)+1<=2;rw[zL];decide) L;refine aE (cX (k:=decide<|L=[]) (PTd.cast (aDv (ra:=.val<|lK L) (rb:=.val<|.lst []) (pdv 3) (PEd.val (kM (ds:=[]) aN<|bU _)) trivial trivial (.inr ⟨rfl,rfl⟩) plL' rfl<|by show(A.deeper<|Ak "_law_told" (bE aBM) s.heap.objs.size f cdv).units+dep (lK L)+1<AN;omega)<|by show deq (lK L) (.lst [])=_;cases L<;>simp[deq,jR]) (λh=>aS<|bY (pdT (ds:=[.int 1,.non]) (aB aP<|aB eV aN)) trivial ?_) λh=>cN ?_)
   ·have h:L=[]:=of_decide_eq_true h;rw[h] at ll;have ll:0=xs.length:=ll;have:xs=[]:=aBe.mp ll.symm;subst this;rw[qP,ez];rfl
   ·have h:L≠[]:=of_decide_eq_false h;have ne':xs≠[]:=λe=>h (aBe.mp<|by rw[ll,e];rfl)
    have er:tlO (rlQ (x0::xs))=.tup [.int (-1),.tup [bW p,lK L]]:=by rw[aHE ez ne',ge];rfl
    rw[er];exact aS (kW<|pdT (ds:=[.int (-1),.tup [bW p,lK L]]) (aB (iM aP)<|aB (pdT (ds:=[bW p,lK L]) (aB (pdv 2)<|aB (pdv 3) aN)) aN))
theorem jG{x:Str}{n:Nat}(h:Asc x n)(l u:Option Int):Asc (Txt.slice x l u) n:=by
 refine⟨λc hc=> ?_,aQ (Txt.slice_le x l u) h.2⟩;unfold Txt.slice at hc
 split at hc
 ·exact h.1 c hc
 ·have hc:c∈(Builtin.Str.strSliceIndices l u 1 x.length).filterMap (x.cps[·]?):=by simpa using hc
  obtain⟨i,_,e⟩:=kF.mp hc;exact h.1 c (by rw[iY];exact Array.mem_of_getElem? e)
noncomputable def tlN(W:List Str):Nat:=(W.map Str.length).sum+W.length
theorem xR:tlN []=0:=rfl
theorem eI(x:Str)(l:List Str):tlN (x::l)=x.length+1+tlN l:=by unfold tlN;rw[bB,List.sum_cons,bM];omega
theorem mB:∀ (a b:List Str),tlN (a++b)=tlN a+tlN b
 |[],b=>by rw[xR];simp
 |x::a,b=>by rw[tI,eI,eI,mB a b];omega
theorem aDa:∀a:List Str,tlN a.reverse=tlN a
 |[]=>rfl
 |x::a=>by rw[List.reverse_cons,mB,aDa a,eI,eI,xR];omega
theorem aCi(W:List Str)(k:Nat):tlN (W.take k)+tlN (W.drop k)=tlN W:=by rw[<-mB,iS]
theorem aCS:∀ (W:List Str) (k:Nat),tlN (W.eraseIdx k)<=tlN W
 |[],k=>by simp
 |x::W,0=>by rw[List.eraseIdx_cons_zero,eI];omega
 |x::W,k+1=>by rw[mJ,eI,eI];have:=aCS W k;omega
theorem aCT:∀ (W:List Str) (k:Nat) (v:Str),tlN (W.set k v)<=tlN W+v.length
 |[],k,v=>by simp[tlN]
 |x::W,0,v=>by rw[List.set_cons_zero,eI,eI];omega
 |x::W,k+1,v=>by rw[List.set_cons_succ,eI,eI];have:=aCT W k v;omega
theorem pP:∀ {W:List Str}{p:Str},p∈W->p.length<=tlN W
 |x::W,p,h=>by
  rw[eI]
  rcases aG.mp h with rfl|h
  ·omega
  ·have:=pP h;omega
theorem aCw:∀W:List Str,W.length<=tlN W:=λW=>aMi _ _
theorem tJ(c:Nat):∀W:List Str,W≠[]->(Str.join ⟨#[c]⟩ W).length+1=tlN W
 |[x],_=>by rw[eI,xR];rfl
 |x::y::r,_=>by have e:=congrArg lH<|gM c x y r;simp only[aU,bM,cY] at e;have h:=tJ c (y::r) (by simp);rw[eI];have h:(Str.join ⟨#[c]⟩ (y::r)).cps.size+1=tlN (y::r):=h;show(Str.join ⟨#[c]⟩ (x::y::r)).cps.size+1=x.cps.size+1+tlN (y::r);omega
theorem wD(x:Str)(c:Nat):tlN (Txt.split x ⟨#[c]⟩)=x.length+1:=by have:=tJ c (Txt.split x ⟨#[c]⟩)<|hR _ _;rw[StrLaws.join_split] at this;exact this.symm
theorem aAS{c:Nat}(hc:c<128):∀ {W:List Str},(∀p∈W,∀a∈p.cps.toList,a<128)->∀a∈(Str.join ⟨#[c]⟩ W).cps.toList,a<128
 |[],_,a,ha=>by have:(Str.join ⟨#[c]⟩ []).cps.toList=[]:=rfl;rw[this] at ha;cases ha
 |[x],h,a,ha=>h x aM a ha
 |x::y::r,h,a,ha=>by
  rw[gM] at ha
  rcases aW.mp ha with q|q
  ·exact h x aM a q
  ·rcases aG.mp q with rfl|q
   ·exact hc
   ·exact aAS hc (λp hp=>h p<|aH _ hp) a q
theorem pQ{c n:Nat}(hc:c<128){W:List Str}(h:∀p∈W,∀a∈p.cps.toList,a<128)(hn:tlN W<=n):Asc (Txt.join ⟨#[c]⟩ W) n:=by
 have e:Txt.join ⟨#[c]⟩ W=Str.join ⟨#[c]⟩ W:=by show Builtin.Str.glued _ _=_;rw[StrLaws.glued_eq_join]
 rw[e];refine⟨aAS hc h, ?_⟩;cases W with
 |nil=>exact bU _
 |cons x W=>have:=tJ c (x::W) (by simp);omega
theorem aDE{x:Str}{n:Nat}(h:Asc x n)(i j:Nat):Asc (Builtin.Str.strSub x i j) n:=by
 have e:=StrLaws.strSub_toList x i j;refine⟨λc hc=> ?_, ?_⟩
 ·rw[e] at hc;exact h.1 c (gE<|jA hc)
 ·have l:(Builtin.Str.strSub x i j).length=(Builtin.Str.strSub x i j).cps.toList.length:=by simp[Str.length]
  rw[l,e];refine aQ ?_ h.2;rw[eC,iT,cY];show _<=x.cps.size;omega
theorem aDw{x y z:Str}{n m:Nat}(h:Asc x n)(hz:Asc z m):Asc (yS x y z) (n+m+n):=by
 unfold yS
 split
 ·exact h.mono<|by omega
 ·rename_i q
  rcases StrLaws.occ_head x y 1 (aO 1) with⟨h0,_⟩|⟨i,r,h0,_,_⟩
  ·rw[h0] at q;simp at q
  ·have hr:r=[]:=by
    have:=StrLaws.occ_length_le x y 0 x.length 1;rw[h0] at this;cases r with
    |nil=>rfl
    |cons _ _=>simp at this
   rw[h0,hr];have e:Builtin.Str.glued z (Builtin.Str.partsBetween x [i] y.length)=Builtin.Str.strSub x 0 i++z++Builtin.Str.strSub x (i+y.length) x.length:=rfl;rw[e];exact hV (hV (aDE h _ _) hz)<|aDE h _ _
def otM:List Str:=["","bits 2 boxes 2","not 0 price 1","not 0 price 10","put 0 0 price 0","and 0 0 price 9","up 0 price 01","add 0 price 2","not 0 0 price 2","down 0 price 3 ","xor 0 0 price 7","copy 0 9 price 1","not 0","bits 1 boxes 7","price 1","put 0 1 price 4"]
def otE:List Str:=["or 0 0 price 1","take 0 0 price 2"]
theorem aLU:∀p∈otM++otE,(p.cps.all (·<128)&&decide (p.length<=20))=true:=by decide+kernel
theorem aCZ{p:Str}(h:p∈otM++otE):Asc p 20:=by have:=aLU p h;rw[aR,<-sO] at this;exact⟨λc hc=>by simpa using bJ.mp this.1 c hc,of_decide_eq_true this.2⟩
def otL(W:List Str)(a wh:Nat)(way:Int):List Str:=
 if way=0 then W.eraseIdx (a%W.length) else if way=1 then W.take (a%W.length)++W.getD (wh%W.length) Str.empty::W.drop (a%W.length) else
 if way=2 then W.take (a%W.length)++otM.getD (wh%16) Str.empty::W.drop (a%W.length) else if way=3 then W.take 1++(W.drop 1).reverse else W++otE
noncomputable def otQ(x:Str)(a wh:Nat)(way:Int):Str:=Txt.join nlT<|otL (Txt.split x nlT) a wh way
theorem lF{l:List Str}{i:Nat}(h:i<l.length):l.getD i Str.empty∈l:=by rw[fB,bN h];exact dE h
theorem aKF{W:List Str}{n:Nat}(h0:W≠[])(ht:tlN W<=n)(ha:∀p∈W,∀c∈p.cps.toList,c<128)(a wh:Nat)(way:Int):tlN (otL W a wh way)<=n+n+100/\∀p∈otL W a wh way,∀c∈p.cps.toList,c<128:=by
 have hl:0<W.length:=fG.mpr h0;have l1:=dI a hl;have l2:=dI wh hl;have l3:=dI wh (show 0<16 by decide);unfold otL
 split
 ·refine⟨aQ (aCS _ _)<|by omega,λp hp=>ha p<|(List.eraseIdx_sublist _ _).subset hp⟩
 split
 ·refine⟨?_,λp hp=> ?_⟩
  ·rw[mB,eI];have:=aCi W<|a%W.length;have:=pP<|lF l2;omega
  ·rcases aW.mp hp with q|q
   ·exact ha p<|jA q
   ·rcases aG.mp q with rfl|q
    ·exact ha _<|lF l2
    ·exact ha p<|gE q
 split
 ·have m:=aCZ (bH otE<|lF (l:=otM) (i:=wh%16) l3);refine⟨?_,λp hp=> ?_⟩
  ·rw[mB,eI];have:=aCi W<|a%W.length;have:=m.2;omega
  ·rcases aW.mp hp with q|q
   ·exact ha p<|jA q
   ·rcases aG.mp q with rfl|q
    ·exact m.1
    ·exact ha p<|gE q
 split
 ·refine⟨?_,λp hp=> ?_⟩
  ·rw[mB,aDa,aCi];omega
  ·rcases aW.mp hp with q|q
   ·exact ha p<|jA q
   ·exact ha p (gE<|List.mem_reverse.mp q)
 ·refine⟨?_,λp hp=> ?_⟩
  ·rw[mB];have:tlN otE<=50:=by decide+kernel
   omega
  ·rcases aW.mp hp with q|q
   ·exact ha p q
   ·exact(aCZ<|aJ otM q).1
theorem aAP{x:Str}(h:Asc x 1000)(a wh:Nat)(way:Int):tlN (otL (Txt.split x nlT) a wh way)<=2102/\∀p∈otL (Txt.split x nlT) a wh way,∀c∈p.cps.toList,c<128:=
 aKF (n:=1001) (hR _ _) (aQ (jU<|wD x 10)<|by have:=h.2;omega) (λp hp=>(iP h hp).1) a wh way
theorem aIA{x:Str}(h:Asc x 1000)(a wh:Nat)(way:Int):Asc (otQ x a wh way) 2102:=by obtain⟨h1,h2⟩:=aAP h a wh way;exact pQ (c:=10) (by decide) h2 h1
theorem aLJ{α:Type}{X:Cx}{sd:List Slot}{st:BG}{rest:List BG}{E:fW}(S:α->List Slot)(Q:α->Prop)(h:(∀a,Q a->PSd X (S a) rest E)->PSd X sd (st::rest) E)(k:∀a,Q a->PSd X (S a) rest E):PSd X sd (st::rest) E:=h k
theorem aDF:∀ (W:List Str) (k:Nat),(W.eraseIdx k).map D.str=(W.map D.str).eraseIdx k
 |[],_=>by simp
 |x::W,0=>rfl
 |x::W,k+1=>by rw[mJ,bB,bB,mJ,aDF W k]
def aOs:List D->R->Prop:=λds r=>∃x a wh way,Asc x 1000/\ds=[.str x,.int ((a:Nat):Int),.int ((wh:Nat):Int),.int way]/\r=.val (.str<|otQ x a wh way)
theorem aHu(a n:Nat):(a:Int)%(n:Int)=((a%n:Nat):Int):=by simp
set_option maxHeartbeats 1000000 in
theorem aFJ(F:FI K mg "_law_other_lines" aOF)(zlen:mg "len"=none):bP P w K mg base "_law_other_lines" 1 4 aOs:=by
 refine dL (N:=["_law_text_here","_law_at","_law_which","_law_way","_law_lines","_law_more"]) (ps:=["_law_text_here","_law_at","_law_which","_law_way"]) (k:=0) F λf nd cdv A outer s H E hr ds r hl c=> ?_
 obtain⟨x,a,wh,way,hx,rfl,rfl⟩:=c;have tot:=aAP hx a wh way;have cnt:=iQ (c:=10) hx;have ne:=hR x nlT;have cnt:(Txt.split x nlT).length<=1001:=cnt;unfold otQ;refine aE<|pE (ds:=(Txt.split x nlT).map D.str) 4 (hJ (y:=nlT) (pdv 0) bO (by decide) (aQ hx.2<|by decide) (aQ cnt<|by decide)) λl4=> ?_;generalize Txt.split x nlT=W at *;have wl:0<W.length:=fG.mpr ne;have k1:=dI a wl;have k2:=dI wh wl;have k3:=dI wh (show 0<16 by decide);refine aE<|fM (d:=.int ((a%W.length:Nat):Int)) 1 (PEd.ic (cP eJ (pdv 1) (PEd.ic (dR rfl zlen (fJ 4 rfl<|pv 4))<|by rw[aD])<|by omega)<|aHu _ _) ?_;refine aE<|fM (d:=.lst<|(otM.take 6).map D.str) 5 (PEd.val<|pdL (ds:=[.str "",.str "bits 2 boxes 2",.str "not 0 price 1",.str "not 0 price 10",.str "put 0 0 price 0",.str "and 0 0 price 9"]) (aB bO<|aB bO (aB bO<|aB bO (aB bO<|aB bO aN)))) ?_;refine aE<|fM (d:=.lst<|(otM.take 11).map D.str) 5 (PEd.val (gQ (d1:=(otM.take 6).map D.str) (d2:=((otM.drop 6).take 5).map D.str) (PEd.bor<|pdv 5) (PEd.bor<|PEd.val (pdL (ds:=[.str "up 0 price 01",.str "add 0 price 2",.str "not 0 0 price 2",.str "down 0 price 3 ",.str "xor 0 0 price 7"])<|aB bO (aB bO<|aB bO (aB bO<|aB bO aN))))<|cG rfl)) ?_;refine aE<|fM (d:=.lst<|(otM.take 13).map D.str) 5 (PEd.val (gQ (d1:=(otM.take 11).map D.str) (d2:=((otM.drop 11).take 2).map D.str) (PEd.bor<|pdv 5) (PEd.bor (PEd.val<|pdL (ds:=[.str "copy 0 9 price 1",.str "not 0"]) (aB bO<|aB bO aN)))<|cG rfl)) ?_;refine aE<|fM (d:=.lst<|otM.map D.str) 5 (PEd.val (gQ (d1:=(otM.take 13).map D.str) (d2:=(otM.drop 13).map D.str) (PEd.bor<|pdv 5) (PEd.bor<|PEd.val (pdL (ds:=[.str "bits 1 boxes 7",.str "price 1",.str "put 0 1 price 4"])<|aB bO (aB bO<|aB bO aN)))<|cG rfl)) ?_;refine rM (sd':=[.val<|.str x,.val<|.int ((a%W.length:Nat):Int),.val<|.int ((wh:Nat):Int),.val<|.int way,.own l4<|W.map D.str,.val (.lst<|otM.map D.str)]) (Le.refl _) ?_;have e16:(((otM.map D.str).length:Nat):Int)=((16:Nat):Int):=rfl
 have g:∀ {M:List Str}{i:Nat},i<M.length->(M.map D.str)[i]? =some (.str<|M.getD i Str.empty):=λ{M i} h=>by rw[bQ,fB,bN h];rfl
 refine aLJ (α:=BC×List Str) (λy=>[.val<|.str x,.val<|.int ((a%W.length:Nat):Int),.val<|.int ((wh:Nat):Int),.val<|.int way,.own y.1<|y.2.map D.str,.val (.lst<|otM.map D.str)]) (λy=>y.2=otL W a wh way) (λkey=>aE<|cX (k:=decide<|way=0) (gP (pdv 3) aP) (λh=>aS<|aGf 4 (a%W.length) rfl (pdv 1) (by rw[aD];exact k1) (by rw[aD];omega) ?_) λh0=>aS (cX (k:=decide<|way=1) (gP (pdv 3) aP) (λh=>aS<|aAC (d:=.str<|W.getD (wh%W.length) Str.empty) 4 (a%W.length) rfl (pdv 1) (eU (n:=wh%W.length) (fJ 4 rfl<|pv 4) (PEd.ic (cP eJ (pdv 2) (PEd.ic (dR rfl zlen (fJ 4 rfl<|pv 4))<|by rw[aD])<|by omega)<|aHu _ _) (g k2) λ_ _=>rfl) (by rw[aD];omega) (by rw[aD];omega) ?_) λh1=>aS<|cX (k:=decide<|way=2) (gP (pdv 3) aP) (λh=>aS<|aAC (d:=.str<|otM.getD (wh%16) Str.empty) 4 (a%W.length) rfl (pdv 1) (eU (n:=wh%16) (PEd.bor<|pdv 5) (PEd.ic (cP eJ (pdv 2) (PEd.ic (dR rfl zlen (PEd.bor<|pdv 5)) e16) (show(0:Int)<((16:Nat):Int) by decide))<|aHu _ _) (g (M:=otM) k3) λ_ _=>rfl) (by rw[aD];omega) (by rw[aD];omega) ?_) λh2=>aS (cX (k:=decide<|way=3) (gP (pdv 3) aP) (λh=>aS<|pE (ds:=(W.take 1++(W.drop 1).reverse).map D.str) 4 (PEd.cast (gQ (d1:=(W.take 1).map D.str) (d2:=((W.drop 1).reverse).map D.str) (PEd.bor (PEd.val<|PEd.cast (aCf (ol:=none) (oh:=some ((1:Nat):Int)) (fJ 4 rfl<|pv 4) trivial aP) ?_)) (PEd.bor<|PEd.val (PEd.cast (aIe (ds:=(W.drop 1).map D.str) (ol:=none) (oh:=none) (ok:=some (-1)) (PEd.bor<|PEd.val (PEd.cast (pY (k:=1) (fJ 4 rfl<|pv 4) aP)<|by rw[rB])) trivial trivial (iM aP)<|by decide)<|by rw[aEo,List.map_reverse])) ?_)<|by rw[aT]) λl=> ?_) λh3=>aS<|pE (ds:=(W++otE).map D.str) 4 (PEd.cast (gQ (d1:=W.map D.str) (d2:=otE.map D.str) (fJ 4 rfl<|pv 4) (PEd.bor (PEd.val<|pdL (ds:=[.str "or 0 0 price 1",.str "take 0 0 price 2"]) (aB bO<|aB bO aN))) ?_)<|by rw[aT]) λl=> ?_))) λ⟨l,M⟩ hM=> ?_
 ·have:=key (l4,W.eraseIdx<|a%W.length) (by unfold otL;rw[if_pos<|of_decide_eq_true h]);rw[aDF] at this;exact this
 ·have:=key (l4,W.take (a%W.length)++W.getD (wh%W.length) Str.empty::W.drop (a%W.length)) (by unfold otL;rw[if_neg<|of_decide_eq_false h0,if_pos<|of_decide_eq_true h]);rw[aT,bB,rA,rB] at this;exact this
 ·have:=key (l4,W.take (a%W.length)++otM.getD (wh%16) Str.empty::W.drop (a%W.length)) (by unfold otL;rw[if_neg<|of_decide_eq_false h0,if_neg<|of_decide_eq_false h1,if_pos<|of_decide_eq_true h]);rw[aT,bB,rA,rB] at this;exact this
 ·unfold DL.cutD;have h1:HT.sIx (W.map D.str).length 0 none=0:=rfl;rw[h1,HT.sIx_nat,rA,dM,aEE,aMh<|by rw[aD];omega]
 ·rw[aD,aD,List.length_reverse,eC,iT];omega
 ·exact key (l,_) (by unfold otL;rw[if_neg<|of_decide_eq_false h0,if_neg<|of_decide_eq_false h1,if_neg<|of_decide_eq_false h2,if_pos<|of_decide_eq_true h])
 ·rw[aD];show _+2<=10000;omega
 ·exact key (l,_) (by unfold otL;rw[if_neg<|of_decide_eq_false h0,if_neg<|of_decide_eq_false h1,if_neg<|of_decide_eq_false h2,if_neg<|of_decide_eq_false h3])
 ·have hM:M=otL W a wh way:=hM;rw[<-hM] at tot ⊢;refine jY 4 rfl ?_;have ml:=aCw M;have t1:=tot.1;refine aS<|kW (pZ (z:=nlT) (ss:=M) (pdv 4)<|xO (B:=2102) (λy hy=>aQ (pP hy) t1) ?_);have:nlT.length=1:=rfl;rw[this];have:M.length*2102<=2102*2102:=iR (by omega)<|aO _;omega
noncomputable def sgS:Str:="0123456789 \nabprice-+.:A_"
noncomputable def sgC(wh:Nat):Str:=⟨#[sgS.cps.toList.getD (wh%sgS.length) 0]⟩
theorem uS:(sgS.cps.toList.all λc=>decide<|c<128)=true/\0<sgS.length/\sgS.length<=100:=by decide+kernel
theorem aNR{l:List Nat}{n:Nat}(h:n<l.length):L2.atI l ((n:Nat):Int)=some (l.getD n 0):=by
 rw[fB,bN h]
 have e:L2.ixN l.length ((n:Nat):Int)=some n:=by unfold L2.ixN;rw[if_pos<|by omega,if_pos<|by omega,cD]
 unfold L2.atI;rw[e];show l[n]? =_;rw[bN h];rfl
theorem aLu(wh:Nat):L2.atI sgS.cps.toList (((wh%sgS.length:Nat):Int))=some (sgS.cps.toList.getD (wh%sgS.length) 0):=
 aNR (by rw[cY];exact dI wh uS.2.1)
theorem aCt(wh:Nat):Asc (sgC wh) 1:=by
 have h:=dI wh uS.2.1;have h':wh%sgS.length<sgS.cps.toList.length:=by rw[cY];exact h
 refine⟨λc hc=> ?_,aO _⟩;have hc:c=sgS.cps.toList.getD (wh%sgS.length) 0:=by simpa[sgC] using hc
 rw[hc,fB,bN h'];simpa using bJ.mp uS.1 _ (dE h')
def chM:List Str:=["0","1","2","3","9","10","00","07","-1","price","not","and","put","bits","","six"]
theorem aKy:∀p∈chM,(p.cps.all (·<128)&&decide (p.length<=20))=true:=by decide+kernel
theorem aHO{p:Str}(h:p∈chM):Asc p 20:=by have:=aKy p h;rw[aR,<-sO] at this;exact⟨λc hc=>by simpa using bJ.mp this.1 c hc,of_decide_eq_true this.2⟩
noncomputable def sp2:Str:="  "
def chW(W:List Str)(a wh:Nat):List Str:=W.set (a%W.length)<|(W++chM).getD (wh%(W++chM).length) Str.empty
noncomputable def ch6(x:Str):List Str:=[x++nlT,DL.spT++x,x++DL.spT,yS x DL.spT sp2,Str.empty,nlT++x]
noncomputable def chF(x:Str)(kind:Int)(a wh:Nat)(way:Int):Str:=
 if kind<2 then Txt.slice x none (some ((a:Nat):Int))++sgC wh++Txt.slice x (some<|((a:Nat):Int)+1) none else
 if kind=2 then Txt.slice x none (some ((a:Nat):Int))++sgC wh++Txt.slice x (some ((a:Nat):Int)) none else
 if kind=3 then Txt.slice x none (some ((a:Nat):Int))++Txt.slice x (some<|((a:Nat):Int)+1) none else
 if kind<6 then Txt.join spT (chW (Txt.split x spT) a wh) else
 if kind=6 then(ch6 x).getD (wh%6) Str.empty else otQ x a wh way
theorem aHn{x:Str}(h:Asc x 1000)(a wh:Nat):tlN (chW (Txt.split x spT) a wh)<=3022/\∀p∈chW (Txt.split x spT) a wh,∀c∈p.cps.toList,c<128:=by
 have ha:∀p∈Txt.split x spT,∀c∈p.cps.toList,c<128:=λp hp=>(iP h hp).1
 have ht:tlN (Txt.split x spT)<=1001:=aQ (jU<|wD x 32) (by have:=h.2;omega);generalize Txt.split x spT=W at *;have hl:0<(W++chM).length:=by rw[aU];show 0<_+16;omega
 have m:=lF<|dI wh hl;unfold chW;generalize (W++chM).getD (wh%(W++chM).length) Str.empty=v at *
 have hv:v.length<=2000/\∀c∈v.cps.toList,c<128:=by
  rcases aW.mp m with q|q
  ·exact⟨by have:=pP q;omega,ha v q⟩
  ·have:=aHO q;exact⟨by have:=this.2;omega,this.1⟩
 refine⟨by have:=aCT W (a%W.length) v;omega,λp hp=> ?_⟩
 rcases List.mem_or_eq_of_mem_set hp with q|q
 ·exact ha p q
 ·rw[q];exact hv.2
theorem aKj{c:Nat}(hc:c<128):Asc ⟨#[c]⟩ 1:=⟨λa ha=>(by simpa using ha:a=c)▸hc,aO _⟩
theorem aLk{x:Str}(h:Asc x 1000)(kind:Int)(a wh:Nat)(way:Int):Asc (chF x kind a wh way) 8000:=by
 have s1:=jG h none<|some ((a:Nat):Int);have s2:=jG h (some<|((a:Nat):Int)+1) none;have s3:=jG h (some ((a:Nat):Int)) none;have s4:=aCt wh;unfold chF
 split
 ·exact(hV (hV s1 s4) s2).mono<|by decide
 split
 ·exact(hV (hV s1 s4) s3).mono<|by decide
 split
 ·exact(hV s1 s2).mono<|by decide
 split
 ·obtain⟨h1,h2⟩:=aHn h a wh;exact(pQ (c:=32) (by decide) h2 h1).mono<|by decide
 split
 ·have k10:Asc nlT 1:=aKj (by decide);have k32:Asc spT 1:=aKj (by decide)
  have k2:Asc sp2 2:=by
   refine⟨?_,by decide+kernel⟩;have:(sp2.cps.toList.all λc=>decide<|c<128)=true:=by decide+kernel
   exact λc hc=>by simpa using bJ.mp this c hc
  have a1:∀p∈ch6 x,Asc p 8000:=λp hp=>by
   simp only[ch6,aG,bD,or_false] at hp
   rcases hp with rfl|rfl|rfl|rfl|rfl|rfl
   ·exact(hV h k10).mono<|by decide
   ·exact(hV k32 h).mono<|by decide
   ·exact(hV h k32).mono<|by decide
   ·exact(aDw h k2).mono<|by decide
   ·exact⟨λc hc=>by simp[Str.empty] at hc,bU _⟩
   ·exact(hV k10 h).mono<|by decide
  exact a1 _ (lF<|dI wh (show 0<6 by decide))
 ·exact(aIA h a wh way).mono<|by decide
noncomputable def chQ(x:Str)(c:Int):Str:=chF x (c%10) (c / 10%1000000%((x.length:Nat)+1:Int)).toNat (c / 10 / 1000000%1000000).toNat<|c / 10 / 1000000 / 1000000%5
def aOl:List D->R->Prop:=λds r=>∃x c,Asc x 1000/\ds=[.str x,.int c]/\r=.val (.str<|chQ x c)
set_option maxHeartbeats 1000000 in
theorem aBw(F:FI K mg "_law_changed" aOk)(zlen:mg "len"=none)(GG:bP P w K mg base "_law_digits" 1 2 yG)(GO:bP P w K mg base "_law_other_lines" 1 4 aOs):bP P w K mg base "_law_changed" 2 2 aOl:=by
 refine dL (N:=["_law_text_here","_law_x","_law_kind","_law_at","_law_which","_law_way","_law_signs","_law_sign","_law_words","_law_some"]) (ps:=["_law_text_here","_law_x"]) (k:=1) F λf nd cdv A outer s H E hr ds r hl c=> ?_
 obtain⟨x,c,hx,rfl,rfl⟩:=c;have hx1:=hx.2;have hx5:x.length<=100000:=by omega
 refine aE<|sY (d:=.lst<|(uK c [10,1000000,1000000,5]).map D.int) (PEd.val<|pdc (ds:=[.int c,.lst<|[10,1000000,1000000,5].map D.int]) GG hr (aB (pdv 1)<|aB (PEd.val<|pdL (ds:=[.int 10,.int 1000000,.int 1000000,.int 5]) (aB aP<|aB (PEd.ic (cP yD aP aP ⟨by decide,by decide,by decide⟩) rfl) (aB (PEd.ic (cP yD aP aP ⟨by decide,by decide,by decide⟩) rfl)<|aB aP aN))) aN) ⟨_,[10,1000000,1000000,5],rfl,by decide,by decide,rfl⟩) (aCO (js:=[2,3,4,5]) rfl (dO (pgn 2)<|dO (pgn 3) (dO (pgn 4)<|dO (pgn 5) kE)) rfl rfl) ?_;obtain⟨wh,hwh⟩:∃wh:Nat,c / 10 / 1000000%1000000=(wh:Int):=⟨(c / 10 / 1000000%1000000).toNat,by have:=cM (c / 10 / 1000000) (show(1000000:Int)≠0 by decide);omega⟩;have n0:(0:Int)<((x.length:Nat):Int)+1:=by omega
 obtain⟨a,ha⟩:∃a:Nat,c / 10%1000000%(((x.length:Nat):Int)+1)=(a:Int):=⟨(c / 10%1000000%(((x.length:Nat):Int)+1)).toNat,by have:=cM (c / 10%1000000)<|sN n0;omega⟩
 have ec:chQ x c=chF x (c%10) a wh (c / 10 / 1000000 / 1000000%5):=by unfold chQ;rw[hwh,ha,cD,cD]
 rw[ec];refine rM (sd':=[.val<|.str x,.val<|.int c,.val (.int<|c%10),.val (.int<|c / 10%1000000),.val<|.int ((wh:Nat):Int),.val (.int<|c / 10 / 1000000 / 1000000%5),.un,.un,.un,.un]) ⟨.inr rfl,.inr rfl,.inr rfl,.inr rfl,.inr (by rw[<-hwh]),.inr rfl,.inr rfl,.inr rfl,.inr rfl,.inr rfl,trivial⟩ ?_;generalize c / 10 / 1000000 / 1000000%5=way;generalize hki:c%10=kind;refine aE<|fM (d:=.str sgS) 6 bO ?_;have l25:=uS.2.2;have l0:=uS.2.1;refine aE<|fM (d:=.str<|sgC wh) 7 (aCc (pdv 6) (PEd.ic (cP eJ (pdv 4) (qM rfl zlen (pdv 6)<|by omega)<|by omega)<|aHu _ _) (by omega) (aLu wh) λ_ _=>rfl) ?_;refine aE<|fM (d:=.int ((a:Nat):Int)) 3 (PEd.ic (cP eJ (pdv 3) (iJ fR (qM rfl zlen (pdv 0) hx5) aP) n0) ha) ?_;have t1:=(jG hx none<|some ((a:Nat):Int)).2;have t2:=(jG hx (some<|((a:Nat):Int)+1) none).2;have t3:=(jG hx (some ((a:Nat):Int)) none).2;have t4:=(aCt wh).2;have cA:∀s t:Str,s.length<=2000->t.length<=2000->s.length+t.length<=100000:=λs t _ _=>by omega
 have t5:(Txt.slice x none (some ((a:Nat):Int))++sgC wh).length<=2000:=by rw[Str.length_append];omega
 refine aE<|cX (k:=decide<|kind<2) (iU oG (pdv 2) aP<|eK _) (λh=>aS<|bY (hU (hU (rT (ol:=none) (oh:=some ((a:Nat):Int)) (pdv 0) trivial (pdv 3) hx5) (pdv 7) (cA _ _ (by omega)<|by omega)) (rT (ol:=some<|((a:Nat):Int)+1) (oh:=none) (pdv 0) (iJ fR (pdv 3) aP) trivial hx5) (cA _ _ t5<|by omega)) trivial ?_) λh1=>cN ?_
 ·unfold chF;rw[if_pos<|of_decide_eq_true h]
 refine aE<|cX (k:=decide<|kind=2) (gP (pdv 2) aP) (λh=>aS<|bY (hU (hU (rT (ol:=none) (oh:=some ((a:Nat):Int)) (pdv 0) trivial (pdv 3) hx5) (pdv 7) (cA _ _ (by omega)<|by omega)) (rT (ol:=some ((a:Nat):Int)) (oh:=none) (pdv 0) (pdv 3) trivial hx5) (cA _ _ t5<|by omega)) trivial ?_) λh2=>cN ?_
 ·unfold chF;rw[if_neg<|of_decide_eq_false h1,if_pos<|of_decide_eq_true h]
 refine aE<|cX (k:=decide<|kind=3) (gP (pdv 2) aP) (λh=>aS<|bY (hU (rT (ol:=none) (oh:=some ((a:Nat):Int)) (pdv 0) trivial (pdv 3) hx5) (rT (ol:=some<|((a:Nat):Int)+1) (oh:=none) (pdv 0) (iJ fR (pdv 3) aP) trivial hx5) (cA _ _ (by omega)<|by omega)) trivial ?_) λh3=>cN ?_
 ·unfold chF;rw[if_neg<|of_decide_eq_false h1,if_neg<|of_decide_eq_false h2,if_pos<|of_decide_eq_true h]
 have g:∀ {M:List Str}{i:Nat},i<M.length->(M.map D.str)[i]? =some (.str<|M.getD i Str.empty):=λ{M i} h=>by rw[bQ,fB,bN h];rfl
 refine aE<|cX (k:=decide<|kind<6) (iU oG (pdv 2) aP<|eK _) (λh=> ?_) λh4=>cN ?_
 ·have ef:chF x kind a wh way=Txt.join spT (chW (Txt.split x spT) a wh):=by unfold chF;rw[if_neg<|of_decide_eq_false h1,if_neg<|of_decide_eq_false h2,if_neg<|of_decide_eq_false h3,if_pos<|of_decide_eq_true h]
  rw[ef];have tot:=aHn hx a wh;have cnt:(Txt.split x spT).length<=1001:=iQ (c:=32) hx;have ne:=hR x spT;refine aE<|pE (ds:=(Txt.split x spT).map D.str) 8 (hJ (y:=spT) (pdv 0) bO (by decide) hx5 (aQ cnt<|by decide)) λl8=> ?_;generalize Txt.split x spT=W at *;have wl:0<W.length:=fG.mpr ne;have k1:=dI a wl;have k2:wh%(W++chM).length<(W++chM).length:=dI wh (by rw[aU];omega);have k3:(W++chM).length=W.length+16:=by rw[aU];rfl
  refine aE<|fM (d:=.lst<|(W++chM.take 14).map D.str) 9 (PEd.val (PEd.cast (gQ (d1:=W.map D.str) (d2:=(chM.take 14).map D.str) (fJ 8 rfl<|pv 8) (PEd.bor (PEd.val<|pdL (ds:=[.str "0",.str "1",.str "2",.str "3",.str "9",.str "10",.str "00",.str "07",.str "-1",.str "price",.str "not",.str "and",.str "put",.str "bits"]) (aB bO<|aB bO (aB bO<|aB bO (aB bO<|aB bO (aB bO<|aB bO (aB bO<|aB bO (aB bO<|aB bO (aB bO<|aB bO aN)))))))))<|by rw[aD];show _+14<=10000;omega)<|by rw[aT])) ?_;refine aE<|fM (d:=.lst<|(W++chM).map D.str) 9 (PEd.val (PEd.cast (gQ (d1:=(W++chM.take 14).map D.str) (d2:=(chM.drop 14).map D.str) (PEd.bor<|pdv 9) (PEd.bor (PEd.val<|pdL (ds:=[.str "",.str "six"]) (aB bO<|aB bO aN)))<|by rw[aD,aU];show _+14+2<=10000;omega)<|by rw[<-aT,lI,iS])) ?_;refine aE<|xA (n:=a%W.length) (d:=.str<|(W++chM).getD (wh%(W++chM).length) Str.empty) 8 rfl (pv 8) (eU (n:=wh%(W++chM).length) (PEd.bor<|pdv 9) (PEd.ic (cP eJ (pdv 4) (PEd.ic (dR rfl zlen (PEd.bor<|pdv 9))<|by rw[aD])<|by omega)<|aHu _ _) (g k2) λ_ _=>rfl) (PEd.ic (cP eJ (pdv 3) (PEd.ic (dR rfl zlen (fJ 8 rfl<|pv 8))<|by rw[aD])<|by omega)<|aHu _ _) (by rw[aD];exact k1) ?_;refine rM (sd':=[.val<|.str x,.val<|.int c,.val<|.int kind,.val<|.int ((a:Nat):Int),.val<|.int ((wh:Nat):Int),.val<|.int way,.val<|.str sgS,.val (.str<|sgC wh),.own l8<|(chW W a wh).map D.str,.un]) ⟨.inr rfl,.inr rfl,.inr rfl,.inr rfl,.inr rfl,.inr rfl,.inr rfl,.inr rfl,.inr (by unfold chW;rw[List.map_set]),.inl rfl,trivial⟩ ?_;generalize chW W a wh=M at *;refine jY 8 rfl ?_;have ml:=aCw M;have t1:=tot.1;refine aS<|kW (pZ (z:=spT) (ss:=M) (pdv 8)<|xO (B:=3022) (λy hy=>aQ (pP hy) t1) ?_);have:spT.length=1:=rfl;rw[this];have:M.length*3022<=3022*3022:=iR (by omega)<|aO _;omega
 refine aE<|cX (k:=decide<|kind=6) (gP (pdv 2) aP) (λh=> ?_) λh5=>cN ?_
 ·have ef:chF x kind a wh way=(ch6 x).getD (wh%6) Str.empty:=by unfold chF;rw[if_neg<|of_decide_eq_false h1,if_neg<|of_decide_eq_false h2,if_neg<|of_decide_eq_false h3,if_neg<|of_decide_eq_false h4,if_pos<|of_decide_eq_true h]
  rw[ef];have s1:spT.length=1:=rfl;have s2:nlT.length=1:=rfl
  have rl:(yS x DL.spT sp2).length<=200000:=by
   have k2:Asc sp2 2:=by
    refine⟨?_,by decide+kernel⟩;have:(sp2.cps.toList.all λc=>decide<|c<128)=true:=by decide+kernel
    exact λc hc=>by simpa using bJ.mp this c hc
   exact aQ (aDw (y:=spT) hx k2).2<|by decide
  refine aS (kW<|eU (ds:=(ch6 x).map D.str) (d:=.str<|(ch6 x).getD (wh%6) Str.empty) (n:=wh%6) (PEd.bor (PEd.val<|pdL (ds:=[.str<|x++nlT,.str<|DL.spT++x,.str<|x++DL.spT,.str<|yS x DL.spT sp2,.str Str.empty,.str<|nlT++x]) ?_)) (PEd.ic (cP eJ (pdv 4) aP<|by decide)<|aHu wh 6) (g (M:=ch6 x)<|dI wh (show 0<6 by decide)) λ_ _=>rfl);refine aB (hU (x:=x) (y:=nlT) (pdv 0) bO<|by omega) ?_;refine aB (hU (x:=spT) (y:=x) bO (pdv 0)<|by omega) ?_;refine aLy (aGd (x:=x) (y:=spT) (pdv 0)<|by omega) (aFL 0 (y:=spT) (z:=sp2) rfl (by decide+kernel) hx5 (by decide+kernel) rl) ?_;refine aB bO ?_;exact aB (hU (x:=nlT) (y:=x) bO (pdv 0)<|by omega) aN
 ·have ef:chF x kind a wh way=otQ x a wh way:=by unfold chF;rw[if_neg<|of_decide_eq_false h1,if_neg<|of_decide_eq_false h2,if_neg<|of_decide_eq_false h3,if_neg<|of_decide_eq_false h4,if_neg<|of_decide_eq_false h5]
  rw[ef];exact aS (kW<|pdc (ds:=[.str x,.int ((a:Nat):Int),.int ((wh:Nat):Int),.int way]) GO hr (aB (pdv 0)<|aB (pdv 3) (aB (pdv 4)<|aB (pdv 5) aN)) ⟨x,a,wh,way,hx,rfl,rfl⟩)
structure aMN(K:aA)(mg:Str->Option BA)(CC CL CH CI CW CG:BC):Prop where
 le:mg "LeastError"=some (.ref CL)
 tg:mg "TooGreat"=some (.ref CG)
 nt:mg "NoText"=some (.ref CC)
 ns:mg "NoWish"=some (.ref CI)
 nw:mg "NoWindow"=some (.ref CW)
 nc:mg "NoChange"=some (.ref CH)
 ve:mg "ValueError"=none
 em:gC K (.ref CC) (.ref CL)=some true
 kv:aV K (.ref CC) (.type "ValueError")=some true
 kc:aV K (.ref CC) (.ref CC)=some true
 kh:aV K (.ref CC) (.ref CH)=some false
 ki:aV K (.ref CC) (.ref CI)=some false
 kw:aV K (.ref CC) (.ref CW)=some false
 kg:aV K (.ref CC) (.ref CG)=some false
 xa:XAt K "line" CC
def aJZ:List D->R->Prop:=λds r=>∃i,qE i ds/\r=.val (.int i)
theorem aGg{CC CL CH CI CW CG:BC}(F:FI K mg "_law_refusal" aMD)(zi:mg "isinstance"=none)(xk:aMN K mg CC CL CH CI CW CG)(GS:bP P w K mg base "read_stock" 7 1 qF/\jX P w K mg base "read_stock" 7 1 qE "line" CC):bP P w K mg base "_law_refusal" 8 1 aJZ:=by
 refine dL (N:=["_law_text_here","_law_found","error"]) (ps:=["_law_text_here"]) (k:=7) F λf nd cdv A outer s H E hr ds r hl c=> ?_
 obtain⟨i,hx,rfl⟩:=c;have hx':=hx;obtain⟨x,k,_,_,_,rfl⟩:=hx';have hu:=uN hr 8;refine aE<|fM (d:=.lst []) 1 (PEd.val (kM (ds:=[]) aN<|bU _)) ?_;refine aE<|aFj (fn:="line") (C:=CC) (i:=i) 2 nd rfl rfl rfl xk.le xk.em (λξ pn F0 tk=> ?_) λa pn=> ?_
 ·exact aS (aDV<|aBa (i:=i) (ds:=[.str x]) GS.2 hr rfl (aB (pdv 0) aN) hx rfl tk)
 ·refine aE<|fM (d:=.lst [.bl true,.bl true,.bl true]) 1 (PEd.val (pdL (ds:=[.bl true,.bl true,.bl true])<|aB (nD 2 xk.xa.xc rfl zi rfl xk.nt xk.kc rfl<|pv 2) (aB (aEh 2 xk.xa.xc rfl zi rfl xk.ve aJh xk.kv rfl<|pv 2)<|aB (tU (k:=false) (nD 2 xk.xa.xc rfl zi rfl xk.ns xk.ki rfl<|pv 2)) aN))) ?_;refine aE<|fM (d:=.lst [.bl true,.bl true,.bl true,.bl true,.bl true]) 1 (PEd.val (gQ (d1:=[.bl true,.bl true,.bl true]) (d2:=[.bl true,.bl true]) (PEd.bor<|pdv 1) (PEd.bor (PEd.val<|pdL (ds:=[.bl true,.bl true]) (aB (tU (k:=false) (nD 2 xk.xa.xc rfl zi rfl xk.nw xk.kw rfl<|pv 2))<|aB (tU (k:=false) (nD 2 xk.xa.xc rfl zi rfl xk.nc xk.kh rfl<|pv 2)) aN)))<|cG rfl)) ?_;refine aE<|fM (d:=.lst [.bl true,.bl true,.bl true,.bl true,.bl true,.bl true]) 1 (PEd.val (gQ (d1:=[.bl true,.bl true,.bl true,.bl true,.bl true]) (d2:=[.bl true]) (PEd.bor<|pdv 1) (PEd.bor<|PEd.val (pdL (ds:=[.bl true])<|aB (tU (k:=false) (nD 2 xk.xa.xc rfl zi rfl xk.tg xk.kg rfl<|pv 2)) aN))<|cG rfl)) ?_;refine aS<|eG (k:=true) (PTd.cast (aDv (ra:=.val<|.lst [.bl true,.bl true,.bl true,.bl true,.bl true,.bl true]) (rb:=.val<|.lst [.bl true,.bl true,.bl true,.bl true,.bl true,.bl true]) (pdv 1) (PEd.cast (PEd.val (aIX (ds:=[.bl true]) (k:=6) (PEd.bor<|PEd.val (pdL (ds:=[.bl true])<|aB kT aN)) aP (by decide)<|by decide)) rfl) trivial trivial (.inr ⟨rfl,rfl⟩) rfl rfl<|by show(A.deeper<|Ak "_law_refusal" (bE aMD) s.heap.objs.size f cdv).units+dep (.lst [.bl true,.bl true,.bl true,.bl true,.bl true,.bl true])+1<AN;have:dep (.lst [.bl true,.bl true,.bl true,.bl true,.bl true,.bl true])<=2:=(by decide);omega) rfl) rfl (aS<|fM (d:=.int i) 1 (aKS 2 xk.xa rfl<|pv 2) ?_);exact aS (kW<|pdv 1)
theorem aCB{p:Int×Int}:∀ (M A B:List SK),A.map skD=B.map skD->(B++M).length<=8->(∀s∈M,lT p s)->((B++M).map λs=>sqD s.1).Pairwise (λa b=>deq a b=false)->∃A',goL p A (M.map lnS)=.inr A'/\A'.map skD=(B++M).map skD
 |[],A,B,e,_,_,_=>⟨A,by unfold goL;rfl,by rw[e,dC]⟩
 |s::M,A,B,e,h8,ok,ap=>by
  have hs:=ok s aM;obtain⟨s',e1,e2⟩:=aGF hs
  have eq1:sqD s'.1=sqD s.1:=by have:D.tup [sqD s'.1,.int s'.2]=D.tup [sqD s.1,.int s.2]:=e2;simp only[D.tup.injEq,iF.injEq] at this;exact this.1
  have lA:A.length=B.length:=by
   have:=congrArg lH e
   rwa[aD,aD] at this
  have hd:oB A s'=false:=by unfold oB;rw[e,xP,eq1,sD];intro z hz;obtain⟨b,hb,rfl⟩:=bA.mp hz;rw[aT] at ap;have:=(dQ.mp ap).2.2 (sqD b.1) (bT (f:=λs:SK=>sqD s.1) hb) (sqD s.1) (by simp);simp[this]
  have h8':B.length+(M.length+1)<=8:=by rw[aU] at h8;exact h8
  rw[bB,vA,e1];dsimp only;rw[hd,decide_eq_false (show ¬ A.length=8 by omega)];have eB:B++s::M=(B++[s])++M:=by rw[lI];rfl
  rw[eB] at h8 ap ⊢;exact aCB M (A++[s']) (B++[s]) (by rw[aT,aT,e];show _++[skD s']=_++[skD s];rw[e2]) h8 (λq hq=>ok q<|aH _ hq) ap
theorem aHW{p:Int×Int}(hp:p∈sizes14){L:List SK}(S:Stk p L):∃L',rlQ (Txt.split (txT p L) nlT)=.inr (p,L')/\L'.map skD=L.map skD:=by
 obtain⟨L',e1,e2⟩:=aCB (p:=p) L [] [] rfl S.l8 S.ok S.ap;refine⟨L', ?_,e2⟩
 have ne:L.map lnS≠[]:=λe=>by have:=S.l0;have h2:=congrArg lH e;rw[aD] at h2;have h2:L.length=0:=h2;omega
 rw[aFC hp S,aHE (aHe hp) ne,e1]
theorem aKD{p:Int×Int}(hp:p∈sizes14){L:List SK}(S:Stk p L):Asc (txT p L) 1000:=by
 refine⟨?_,aLB hp S⟩;have nA:∀n,n<100->((bZ n).cps.toList.all λc=>decide<|c<128)=true:=by decide+kernel
 have mA:∀k,k<10->((nm k).cps.toList.all λc=>decide<|c<128)=true:=by decide+kernel
 have zA:∀q∈sizes14,((szT q).cps.toList.all λc=>decide<|c<128)=true:=by decide+kernel
 have pA:((("price":Str)).cps.toList.all λc=>decide<|c<128)=true:=by decide+kernel
 have un:∀ {x:Str},(x.cps.toList.all λc=>decide<|c<128)=true->∀c∈x.cps.toList,c<128:=λh c hc=>by simpa using bJ.mp h c hc
 have lA:∀s∈L,∀c∈(lnS s).cps.toList,c<128:=λs hs=>by
  have ok:lT p s:=S.ok s hs;obtain⟨s1,s2,s3,s4⟩:=gK ok.1;have p9:=ok.2.2;refine(pQ (c:=32) (n:=tlN<|wdS s) (W:=wdS s) (by decide) (λq hq=> ?_)<|aO _).1
  rcases aW.mp hq with z|z
  ·unfold stW at z
   split at z
   ·simp only[aG,bD,or_false] at z
    rcases z with rfl|rfl|rfl
    ·exact un<|mA _ s1
    ·exact un (nA _<|by omega)
    ·exact un (nA _<|by omega)
   ·simp only[aG,bD,or_false] at z
    rcases z with rfl|rfl
    ·exact un<|mA _ s1
    ·exact un (nA _<|by omega)
  ·simp only[aG,bD,or_false] at z
   rcases z with rfl|rfl
   ·exact un pA
   ·exact un (nA _<|by omega)
 refine(pQ (c:=10) (n:=tlN (szT p::L.map lnS)) (W:=szT p::L.map lnS) (by decide) (λq hq=> ?_)<|aO _).1
 rcases aG.mp hq with rfl|z
 ·exact un<|zA p hp
 ·obtain⟨s,hs,rfl⟩:=bA.mp z;exact lA s hs
theorem wM(p:Int×Int)(L:List SK):pl (.tup [bW p,.lst<|L.map skD])=true:=by have h:pl (.lst<|L.map skD)=true:=mZ skD (λs=>by show(pl (sqD s.1)&&(true&&true))=true;rw[uA];rfl) L;show(pl (bW p)&&(pl (.lst<|L.map skD)&&true))=true;rw[h];rfl
theorem aHc(p:Int×Int)(L:List SK):dep (.tup [bW p,.lst<|L.map skD])<=4:=by have h:dep (.lst<|L.map skD)<=3:=mO<|kS skD 2 (λs=>by show max (dep<|sqD s.1) (max 0 0)+1<=2;rw[zL];decide) L;show max (dep<|bW p) (max (dep (.lst<|L.map skD)) 0)+1<=4;have:dep (bW p)=1:=rfl;omega
abbrev nl9:List Str:=["_law_script","_law_size_here","_law_stock_here","_law_text_here","_law_k","_law_turned_text","_law_line","_law_due","_law_found"]
set_option maxHeartbeats 1000000 in
theorem aMa{CC CL CH CI CW CG fI:BC}{fdI:AJ}(F:Fun K "law" "law" aGr f fd)(zlen:mg "len"=none)(zrange:mg "range"=none)(zmax:mg "max"=none)(zmin:mg "min"=none)(zisinstance:mg "isinstance"=none)(zbool:mg "bool"=none)(xm:aMV K mg CC CL fI)(xk:aMN K mg CC CL CH CI CW CG)(FI:Fun K "__init__" "NoText.__init__" zZ fI fdI)(GD:bP P w K mg base "_law_draw" 1 2 aBW)(GZ:bP P w K mg base "_law_size" 1 1 aKm)(GK:bP P w K mg base "_law_stock" 3 4 aGR)(GX:bP P w K mg base "_law_text" 1 2 aJR)(GC:bP P w K mg base "_law_changed" 2 2 aOl)(GT:bP P w K mg base "_law_told" 3 1 aHB)(GR:bP P w K mg base "_law_refusal" 8 1 aJZ)(GS:bP P w K mg base "read_stock" 7 1 qF/\jX P w K mg base "read_stock" 7 1 qE "line" CC):FnOk P w K mg base CX0 9 f fd ["_law_script"] (spC K 1 aMj):=by
 have nd:nl9.Nodup:=by decide+kernel
 refine aGP (N:=nl9) (ps:=["_law_script"]) (k:=8) F ⟨rfl,rfl,rfl,nd,rfl,by decide+kernel,by decide+kernel⟩ λcdv A outer s H E hr ds r hl c=> ?_
 obtain⟨ns,rfl,hns,rfl⟩:=c;have hr2:=hr.mono (show 2<=8 by decide);have hr7:=hr.mono (show 7<=8 by decide);have hu:=uN hr 6;refine aE<|fM (d:=bW (rX<|eE ns 0)) 1 (pdc (ds:=[.int<|eE ns 0]) GZ hr (aB (pdc (ds:=[.scr ns,.int ((0:Nat):Int)]) GD hr (aB (pdv 0)<|aB aP aN) ⟨ns,0,rfl,by decide,rfl⟩) aN) ⟨_,rfl,rfl⟩) ?_;have hp:=aBv<|eE ns 0;generalize rX (eE ns 0)=p at hp;refine aE<|pE (ds:=(skN p ns 1<|skT ns 1 8).map skD) 2 (pdc (ds:=[.scr ns,.int ((1:Nat):Int),bW p,.int ((8:Nat):Int)]) GK hr (aB (pdv 0)<|aB aP (aB (pdv 1)<|aB aP aN)) ⟨ns,p,1,8,hp,by decide,by decide,by decide,rfl,rfl⟩) λl2=>jY 2 rfl ?_;have S:=aKW hp ns 1;generalize skN p ns 1 (skT ns 1 8)=L at S;refine aE<|fM (d:=.str<|txT p L) 3 (pdc (ds:=[bW p,lK L]) GX hr (aB (pdv 1)<|aB (pdv 2) aN) ⟨p,L,hp,S,rfl,rfl⟩) ?_;have hx:=aKD hp S;obtain⟨L',er,eL⟩:=aHW hp S;have l8:=S.l8;generalize txT p L=x at hx er;obtain⟨m,hm1,hm2,em⟩:∃m:Int,22<=m/\m<=40/\m=max 22 (min ((ns.length:Nat):Int) 40):=⟨_,by omega,by omega,rfl⟩;refine aE<|nL (ds:=gU 10 (m-10).toNat) (λ_=>[.val<|.scr ns,.val<|bW p,.val<|lK L,.val<|.str x,.un,.un,.un,.un,.un]) (λt=>[.val<|.scr ns,.val<|bW p,.val<|lK L,.val<|.str x,.val (.int<|10+(t:Int)),.un,.un,.un,.un]) (tT (lo:=10) (m:=m) rfl zrange aP (PEd.ic (aIJ rfl zmax aP<|aJi rfl zmin (zF rfl zlen<|pdv 0) aP) ?_) ⟨by decide,by decide⟩ ⟨by omega,by omega⟩) (Le.refl _) (λt d hd=> ?_) (λt d hd=> ?_) ?_
 ·rw[em]
  (repeat' split)<;>omega
 ·obtain⟨_,rfl⟩:=fN hd;exact pgN 4
 ·obtain⟨ht,rfl⟩:=fN hd;have hy:=aLk hx (eE ns (10+t)%10) (eE ns (10+t) / 10%1000000%((x.length:Nat)+1:Int)).toNat (eE ns (10+t) / 10 / 1000000%1000000).toNat<|eE ns (10+t) / 10 / 1000000 / 1000000%5;have hy:Asc (chQ x (eE ns<|10+t)) 8000:=hy;refine aE<|fM (d:=.str<|chQ x (eE ns<|10+t)) 5 (pdc (ds:=[.str x,.int (eE ns<|10+t)]) GC hr2 (aB (pdv 3)<|aB (pdc (ds:=[.scr ns,.int ((10+t:Nat):Int)]) GD hr (aB (pdv 0)<|aB (PEd.ic (pdv 4)<|by omega) aN) ⟨ns,10+t,rfl,by omega,rfl⟩) aN) ⟨x,_,hx,rfl,rfl⟩) ?_;generalize chQ x (eE ns<|10+t)=y at hy;cases e:rlQ (Txt.split y nlT) with
  |inl k=>refine aE<|sY (d:=.tup [.int ((k:Nat):Int),.non]) (pdc (ds:=[.str y]) GT hr (aB (pdv 5) aN) ⟨y,hy,rfl,by rw[e];rfl⟩) (nV (js:=[6,7]) rfl (dO (pgn 6)<|dO (pgn 7) kE) rfl rfl) ?_;refine aS<|eG (k:=true) (PTd.cast (nO (d:=.non) (pdv 7) eV) rfl) rfl ?_;refine aE<|fM (d:=.int ((k:Nat):Int)) 8 (pdc (ds:=[.str y]) GR hr (aB (pdv 5) aN) ⟨_,⟨y,k,hy,e,rfl,rfl⟩,rfl⟩) ?_;refine aS (lW (k:=false) (PWd.pt<|dN (k:=false) (j:=false) (dX (iE rfl zisinstance rfl zbool PyProof.Rows.boot_bool (pdv 8) (λ_=>by simp)<|aAO _ _)) λ_=>fU (PTd.cast (iD (pdv 8)<|pdv 6)<|by simp)) rfl<|cN ?_);exact⟨.inr rfl,.inr rfl,.inr rfl,.inr rfl,.inl rfl,.inl rfl,.inl rfl,.inl rfl,.inl rfl,trivial⟩
  |inr q=>obtain⟨p',M⟩:=q;refine aE<|sY (d:=.tup [.int (-1),.tup [bW p',lK M]]) (pdc (ds:=[.str y]) GT hr (aB (pdv 5) aN) ⟨y,hy,rfl,by rw[e];rfl⟩) (nV (js:=[6,7]) rfl (dO (pgn 6)<|dO (pgn 7) kE) rfl rfl) ?_;refine aS<|lW (k:=false) (PTd.cast (nO (d:=.tup [bW p',lK M]) (pdv 7) eV) rfl) rfl ?_;refine aS (lW (k:=false) (PTd.cast (aDy (ra:=.val<|.tup [bW p',lK M]) (rb:=.val<|.tup [bW p',lK M]) (PEd.valP<|pdc (ds:=[.str y]) GS.1 hr7 (aB (pdv 5) aN) ⟨y,p',M,hy,e,rfl,rfl⟩) (pdv 7) trivial trivial (.inl ⟨rfl,rfl⟩) (wM _ _) (wM _ _)<|aOq hu (aQ (mO<|aHc p' M)<|by decide))<|by show(!deq (.tup [bW p',lK M]) (.tup [bW p',lK M]))=false;rw[qT _<|wM _ _];rfl) rfl<|cN ?_);exact⟨.inr rfl,.inr rfl,.inr rfl,.inr rfl,.inl rfl,.inl rfl,.inl rfl,.inl rfl,.inl rfl,trivial⟩
 ·have bI:=FI.binds (ps:=nl3) λ_ _ _ _ _ _ us hl=>match us,hl with | [_,_],_=>rfl
  exact aS<|bY (PEd.cast (lP (k:=true) (j:=true) (PEd.cast (aBU (i:=(((L.map skD).length:Nat):Int)) (aLa xk.xa<|qG xm.xi xm.kp xm.ty (pV FI xm.xi) bI hr2 rfl xm.mc (dR rfl zlen (PEd.bor<|pdv 2)) ⟨by omega,by rw[aD];omega⟩)<|dR rfl zlen (PEd.bor<|pdv 2))<|by simp) λ_=>mT (PEd.cast (aKz (ra:=.val<|.tup [bW p,lK L]) (rb:=.val<|.tup [bW p,lK L]) (PEd.cast (PEd.valP<|pdc (ds:=[.str x]) GS.1 hr7 (aB (pdv 3) aN) ⟨x,p,L',hx.mono<|by decide,er,rfl,rfl⟩)<|by rw[eL]) (pdT (ds:=[bW p,lK L]) (aB (pdv 1)<|aB (pdv 2) aN)) trivial trivial (.inl ⟨rfl,rfl⟩) (wM _ _) (wM _ _)<|aOq hu (aQ (mO<|aHc p L)<|by decide))<|by show R.val (.bl (deq (.tup [bW p,lK L])<|.tup [bW p,lK L]))=_;rw[qT _<|wM _ _])) rfl) trivial rfl
end
theorem all_mk{P:AD}{w:AG}{K:aA}{h:BE}{mg:Str->Option BA}{fa:BC}(X:K.In h)(G:h.Ns AI mg)(hfa:mg "law"=some (.ref fa))
  {odL anL:Option BC}{slL:Array (Option BA)}{ocL kVL dcL pmL cdL ctL:BA}{fL:BC}{fbyself:BC}{dbyself:Option BC}{byselft0 byselft1 byselft2:Tok}{nbyself:Nat}{sbyself:Array (Option BA)}{fbyano:BC}{dbyano:Option BC}{byanot0 byanot1 byanot2 byanot3 byanot4 byanot5:Tok}{nbyano:Nat}{sbyano:Array (Option BA)}{tnine:Tok}{tmost:Tok}{tsix:Tok}{tmfig:Tok}{tfigs:Tok}{CC CL CH CI CW CG fNI:BC}{cdy:ClassData}{odN anN:Option BC}{slN:Array (Option BA)}{ocN kVN dcN pmN cdN ctN:BA}
  (aL:cQ K AI "law"=some (some<|.ref fL)) (lL:K.lookup fL=some ⟨ocL,odL,.func<|cU "law" "law" (fK aGr) (dG aGr) (bE aGr) .none kVL dcL pmL anL cdL ctL,slL⟩) (cL:fE K cdL "law"=true) (kL:bS K (.ref fL)=true) (zisinstance:mg "isinstance"=none) (zint:mg "int"=none) (zbool:mg "bool"=none) (ztuple:mg "tuple"=none) (zlen:mg "len"=none) (zrange:mg "range"=none) (zlist:mg "list"=none) (zall:mg "all"=none) (zset:mg "set"=none) (zstr:mg "str"=none) (zzip:mg "zip"=none) (zmax:mg "max"=none) (zmin:mg "min"=none) (abyself:cQ K AI "BY_ITSELF"=some (some<|.ref fbyself)) (lbyself:K.lookup fbyself=some ⟨.type "tuple",dbyself,.seq #[.str "not" byselft0,.str "up" byselft1,.str "down" byselft2] nbyself,sbyself⟩) (abyano:cQ K AI "BY_ANOTHER"=some (some<|.ref fbyano)) (lbyano:K.lookup fbyano=some ⟨.type "tuple",dbyano,.seq #[.str "and" byanot0,.str "or" byanot1,.str "xor" byanot2,.str "add" byanot3,.str "take" byanot4,.str "copy" byanot5] nbyano,sbyano⟩) (anine:cQ K AI "HIGHEST_PRICE"=some (some<|.int 9 tnine)) (amost:cQ K AI "MOST_STEPS"=some (some<|.int 8 tmost)) (asix:cQ K AI "MOST_BITS"=some (some<|.int 6 tsix)) (amfig:cQ K AI "MOST_FIGURES"=some (some<|.int 2 tmfig)) (afigs:cQ K AI "FIGURES"=some (some<|.str "0123456789" tfigs)) (aCC:cQ K AI "NoText"=some (some<|.ref CC)) (aCL:cQ K AI "LeastError"=some (some<|.ref CL)) (aCH:cQ K AI "NoChange"=some (some<|.ref CH)) (aCI:cQ K AI "NoWish"=some (some<|.ref CI)) (aCW:cQ K AI "NoWindow"=some (some<|.ref CW)) (aCG:cQ K AI "TooGreat"=some (some<|.ref CG)) (nVE:cQ K AI "ValueError"=some none) (ya:cS K (.ref CC) "__class__"=some (some<|.builtin "object.__class__")) (ym:aJw K CC (.type "object")=some true) (ys:PySem.W.subIn K (.ref CC) (.type "BaseException")=some true) (yg:cS K (.ref CC) "__getattribute__"=some (some<|.builtin "BaseException.__getattribute__")) (yn:cS K (.ref CC) "__getattr__"=some none) (yc:oN K CC=some cdy) (yl:gC K (.ref CC) (.ref CL)=some true) (yv:aV K (.ref CC) (.type "ValueError")=some true) (y0:aV K (.ref CC) (.ref CC)=some true) (y1:aV K (.ref CC) (.ref CH)=some false) (y2:aV K (.ref CC) (.ref CI)=some false) (y3:aV K (.ref CC) (.ref CW)=some false) (y4:aV K (.ref CC) (.ref CG)=some false) (yd:rF K CC=true) (yt:cS K (.ref CC) "line"=some none) (yz:cS K (.ref CC) "__setattr__"=some (some<|.builtin "object.__setattr__")) (yi:cS K (.ref CC) "__init__"=some (some<|.ref fNI)) (yk:bS K (.ref CC)=true) (yf:vG K (.ref fNI)=some (.type "function")) (lNI:K.lookup fNI=some ⟨ocN,odN,.func<|cU "__init__" "NoText.__init__" (fK zZ) (dG zZ) (bE zZ) .none kVN dcN pmN anN cdN ctN,slN⟩) (cNI:fE K cdN "NoText.__init__"=true) (kNI:bS K (.ref fNI)=true) (wg:kI K (.ref CL) "__getattribute__"=some (some<|.builtin "type.__getattribute__")) (wr:aGl K CL (.type "type")=true) (wf:aGm K (.ref CL) (.type "type") "__init__"=some (.val<|.builtin "ValueError.__init__")) (wj:aMu K CC CL fNI=true) (hW:FI K mg "is_whole" aGM) (hIz:FI K mg "is_size" aET) (hC:FI K mg "word_count" aGH) (hX:FI K mg "is_box" aOm) (hY:FI K mg "is_word" aJW) (hI:FI K mg "is_step" sQ) (hD:FI K mg "_law_draw" aEV) (hG:FI K mg "_law_digits" aDc) (hZ:FI K mg "_law_size" aDi) (hT:FI K mg "_law_step" aGT) (hIp:FI K mg "is_price" aDn) (hIq:FI K mg "is_priced_step" sX) (hIs:FI K mg "is_stock" pJ) (hK:FI K mg "_law_stock" xQ) (hRn:FI K mg "read_number" aBY) (hRz:FI K mg "read_size" aDs) (hRs:FI K mg "read_priced_step" zG) (hRl:FI K mg "read_lines" uC) (hRk:FI K mg "read_stock" uZ) (hTx:FI K mg "_law_text" aHD) (hFg:FI K mg "_law_figure" aMm) (hSo:FI K mg "_law_size_of" aJU) (hPr:FI K mg "_law_priced" aNe) (hTo:FI K mg "_law_told" aBM) (hOt:FI K mg "_law_other_lines" aOF) (hCg:FI K mg "_law_changed" aOk) (hRf:FI K mg "_law_refusal" aMD):
  ∃fd:AJ,(∀ (s:BB) (v:BA),BindsTo s fd ⟨[v],[]⟩ [("_law_script",v)])/\∀base:BE,K.In base->base.Ns AI mg->FnOk P w K mg base CX0 9 fa fd ["_law_script"] (spC K 1 aMj):=by
 have e:=hfa.symm.trans<|cR X G aL;cases e;have byself:∃ad,mg "BY_ITSELF"=some (.ref ad)/\∀H:Hp,SqT K H ad (selfN.map V.str):=⟨_,cR X G abyself,λH=>.inr ⟨_,_,_,lbyself,rfl,rfl,cG rfl,(show Vals (selfN.map V.str) (#[Value.str "not" byselft0,Value.str "up" byselft1,Value.str "down" byselft2]:Array BA).toList from .cons ⟨_,rfl⟩ (.cons ⟨_,rfl⟩ (.cons ⟨_,rfl⟩<|.nil)))⟩⟩;have byano:∃ad,mg "BY_ANOTHER"=some (.ref ad)/\∀H:Hp,SqT K H ad (anoN.map V.str):=⟨_,cR X G abyano,λH=>.inr ⟨_,_,_,lbyano,rfl,rfl,cG rfl,(show Vals (anoN.map V.str) (#[Value.str "and" byanot0,Value.str "or" byanot1,Value.str "xor" byanot2,Value.str "add" byanot3,Value.str "take" byanot4,Value.str "copy" byanot5]:Array BA).toList from .cons ⟨_,rfl⟩ (.cons ⟨_,rfl⟩<|.cons ⟨_,rfl⟩ (.cons ⟨_,rfl⟩<|.cons ⟨_,rfl⟩ (.cons ⟨_,rfl⟩<|.nil))))⟩⟩;have nine:∃t,mg "HIGHEST_PRICE"=some (.int 9 t):=⟨_,cR X G anine⟩;have most:∃t,mg "MOST_STEPS"=some (.int 8 t):=⟨_,cR X G amost⟩;have six:∃t,mg "MOST_BITS"=some (.int 6 t):=⟨_,cR X G asix⟩;have mfig:∃t,mg "MOST_FIGURES"=some (.int 2 t):=⟨_,cR X G amfig⟩;have figs:∃t,mg "FIGURES"=some (.str figT t):=⟨_,cR X G afigs⟩;have xm:aMV K mg CC CL fNI:=⟨⟨wj,yz,yt,cR X G aCL,wg,wr,wf⟩,yk,yf,cR X G aCC⟩;have xk:aMN K mg CC CL CH CI CW CG:=⟨cR X G aCL,cR X G aCG,cR X G aCC,cR X G aCI,cR X G aCW,cR X G aCH,aBG X G nVE,yl,yv,y0,y1,y2,y3,y4,⟨⟨ya,ym,ys,yg,yn,by rw[yc];rfl⟩,yd,yt⟩⟩;have nIF:=aCg (st:=zZ) lNI cNI kNI;have FL:=aCg (st:=aGr) lL cL kL;refine⟨cU "law" "law" (fK aGr) (dG aGr) (bE aGr) .none kVL dcL pmL anL cdL ctL,λs v=>.of_eq rfl,λbase _ _=> ?_⟩;have GW:=aFy (P:=P) (w:=w) (base:=base) hW zisinstance zint zbool;have GIz:=aIo hIz zisinstance ztuple zlen six GW;have GC:=aFu (P:=P) (w:=w) (base:=base) hC zrange;have GX:=aMc hX GW;have GY:=aIp hY GW GC;have GI:=aDH hI zisinstance ztuple zlen byself byano GX GY;have GD:=aFf (P:=P) (w:=w) (base:=base) hD zlen zrange;have GG:=aEk (P:=P) (w:=w) (base:=base) hG;have GZ:=aEx (P:=P) (w:=w) (base:=base) hZ zlen;have GT:=aGc hT GG;have GIp:=aEs hIp nine GW;have GIq:=aDU hIq zisinstance ztuple zlen GI GIp;have GIs:=aEe hIs zisinstance zlist zlen zall zset most GIq;have GK:=aBi hK zrange GD GT;have GRn:=aGe (P:=P) (w:=w) (base:=base) hRn zlen zall zint figs mfig;have GRz:=aDP hRz zlen GRn;have GRs:=aEa hRs ztuple GRn;have GRl:=yK hRl zlen xm nIF GRz GIz GRs GIs;have GRk:=yQ hRk GRl;have GTx:=aIN (P:=P) (w:=w) (base:=base) hTx zstr;have GFg:=aEy (P:=P) (w:=w) (base:=base) hFg zlen zint;have GSo:=aDR hSo zlen GFg;have GPr:=aDQ hPr zlen zzip ztuple GFg;have GTo:=aEn hTo zlen zrange GSo GPr;have GOt:=aFJ (P:=P) (w:=w) (base:=base) hOt zlen;have GCg:=aBw hCg zlen GG GOt;have GRf:=aGg hRf zisinstance xk GRk;exact aMa FL zlen zrange zmax zmin zisinstance zbool xm xk nIF GD GZ GK GTx GCg GTo GRf GRk
end K12
open PySem PySem.W PyProof.Rows
namespace PySem.W.Fast
theorem tw1051400178201317633:True:=trivial
theorem tw10685626868488451889:True:=trivial
theorem tw11040495297354509071:True:=trivial
theorem tw11682255365665417629:True:=trivial
theorem tw11776511074073717418:True:=trivial
theorem tw11935102915018349976:True:=trivial
theorem tw12264822302715544781:True:=trivial
theorem tw12447565812829631952:True:=trivial
theorem tw12798373436110517203:True:=trivial
theorem tw13031233055270532011:True:=trivial
theorem tw13212511178526982732:True:=trivial
theorem tw13320294255801965087:True:=trivial
theorem tw13667883117108226528:True:=trivial
theorem tw13987419162426199306:True:=trivial
theorem tw14136544507463478588:True:=trivial
theorem tw14180055762667278373:True:=trivial
theorem tw14197212635492188869:True:=trivial
theorem tw14215207857295860142:True:=trivial
theorem tw14398844226531518798:True:=trivial
theorem tw14485603280026787442:True:=trivial
theorem tw15040127648382697726:True:=trivial
theorem tw1505226449760351100:True:=trivial
theorem tw15436945826913176751:True:=trivial
theorem tw15441738665068460003:True:=trivial
theorem tw15790926315803869013:True:=trivial
theorem tw16190840933453895995:True:=trivial
theorem tw16694537785735147479:True:=trivial
theorem tw17046086008737809816:True:=trivial
theorem tw17318979426341197410:True:=trivial
theorem tw17550519502638994212:True:=trivial
theorem tw18094484365986233968:True:=trivial
theorem tw18348280435089587873:True:=trivial
theorem tw18412441345772761718:True:=trivial
theorem tw1986212550932060912:True:=trivial
theorem tw283608923169532145:True:=trivial
theorem tw3026646380374868256:True:=trivial
theorem tw3888554958469987424:True:=trivial
theorem tw4614865682038511392:True:=trivial
theorem tw5058190334143537413:True:=trivial
theorem tw6135461251501428826:True:=trivial
theorem tw6237820155970237064:True:=trivial
theorem tw6592950285421402497:True:=trivial
theorem tw6890128902728786523:True:=trivial
theorem tw7025693015766061892:True:=trivial
theorem tw7027296922239915672:True:=trivial
theorem tw7035908780669070273:True:=trivial
theorem tw7592977176268589854:True:=trivial
theorem tw7869967253455892658:True:=trivial
theorem tw8023767528057406860:True:=trivial
theorem tw8328074532272665170:True:=trivial
theorem tw8700842950483375731:True:=trivial
theorem tw8953711691344503387:True:=trivial
theorem tw9179810008783148594:True:=trivial
theorem tw9229583345961402733:True:=trivial
theorem tw927977892572782983:True:=trivial
theorem tw9321103358192946220:True:=trivial
theorem tw9696933438165086670:True:=trivial
end PySem.W.Fast
set_option maxRecDepth 100000 in
set_option maxHeartbeats 0 in
theorem PySem.Challenge.cw_leastrow_k12_texts_of_stocks_holds : PySem.Challenge.rw_leastrow_k12_texts_of_stocks.Holds := by
 w_on;o_law;k_head;(case hw=>w_witness2)
 k_fill
 refine DL.walkD (l:=PySem.Challenge.rw_leastrow_k12_texts_of_stocks) (k:=9) (x:="_law_script") rfl rfl ⟨rfl,by decide,by decide,rfl⟩ (λw h Y=>PySem.W.kIn_of Y) ?F
 case F=>
  intro w mg fa h KX G hmg;refine' K12.all_mk KX G hmg ?aL ?lL ?cL ?kL ?zisinstance ?zint ?zbool ?ztuple ?zlen ?zrange ?zlist ?zall ?zset ?zstr ?zzip ?zmax ?zmin ?abyself ?lbyself ?abyano ?lbyano ?anine ?amost ?asix ?amfig ?afigs ?aCC ?aCL ?aCH ?aCI ?aCW ?aCG ?nVE ?ya ?ym ?ys ?yg ?yn ?yc ?yl ?yv ?y0 ?y1 ?y2 ?y3 ?y4 ?yd ?yt ?yz ?yi ?yk ?yf ?lNI ?cNI ?kNI ?wg ?wr ?wf ?wj ..
  (case aL|lL|cL|kL|abyself|lbyself|abyano|lbyano|anine|amost|asix|amfig|afigs|aCC|aCL|aCH|aCI|aCW|aCG|nVE|ya|ym|ys|yg|yn|yc|yd|yt|yz|yi|yk|yf|lNI|cNI|kNI|wg|wr|wf=>k_is);(case zisinstance|zint|zbool|ztuple|zlen|zrange|zlist|zall|zset|zstr|zzip|zmax|zmin=>refine' aBG KX G ?a;(case a=>k_is));(case yl=>kts_exm);(case yv=>kit_is);(case y0=>kit_is);(case y1=>kit_is);(case y2=>kit_is);(case y3=>kit_is);(case y4=>kit_is);(case wj=>kernel_rfl)
  any_goals (refine' DL.FI.mk KX G ?a ?l ?c ?k;(case a|l|c|k=>k_is))
