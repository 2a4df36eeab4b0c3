import PyProof.Rows.All
import Wide.All
import OpenK.AllK
import Wide.FinOn
import Lean
import PyProof.EqAt
import PyProof.EqKinds
import PyProof.TupleCall
import PySem.Challenge.RW_leastrow_k78_windows_too_great
set_option Elab.async false
set_option linter.all false
set_option maxRecDepth 100000
open PySem renaming wpAny_bind→AA,starEach→AB,wpAny_pure→AC,Program→AE,model→AG,wpAny→AK,World→AL,sizeLine→AM,FuncData→AN,mainGlobals→AO,wpAny_Call_Name_kw→AR,cLine→AS,behindInMarks→AU,wpAny_newObj_type→AV,compareOp→AW,wpAny_mono→AX,swapsWith→AY,sysModules→AZ,backTo→Aa,argBest→Ac,tupleKind_room_in1→Ad,attributeBase→Ae,tupleKind→Af,bootBuiltins→Ai,codeAny_mono→Aj,wpAny_holding→Ak,wpAny_typeNameOfWhole_keyiter→Al,wpAny_callSpecial?_slot→Am,wpAny_dictEntries→An,binaryOp→Ao,wpAny_passesOwn→Ap,sizeLine_eq→Aq,wpAny_call_entry→As,size_of_entries→Au,codeAny_builtin→Av,wpAny_notOrdered_dict→Aw,wpAny_truthy_bool→Ax,foldedSetIterable→Ay,codeAny→Az,assignEach→BA,wpAny_rule→BB
open PyProof.Rows renaming pendingOf→AD,wpS_bind→AF,Keyed→AH,wpS_pure→AI,arrOf→AJ,wpS_forRange→AT,wpS_mono→Ab,envOfC→Ag,seqObj→Ah,SortKind→Ar,wpS_modify→At,setPending→BC
open Inhabited renaming default→AQ
open PySem.W renaming Frag→aA,fnOf→bY,findIn→cA,instObj→cB,keepIn→cG,kitOne→cH,mg_of→dN,callWith_K→eE,emptyDict→eK,codeIn→eL,nsIn→eM,excIn→iT,exmOne→jL,plainGet→jS,hasDictIn→lS,isFn→nA,cellsFrom_some→nC,lookIn→oK,plainGet_of→pE,methodObj→rA,plainOver→rB,takerIn→sZ,makesIn→tE,mroIn→xP
open List renaming length_map→aC,getElem?_eq_some_iff→aD,mem_cons_of_mem→aE,mem_cons_self→aG,mem_singleton→aH,mem_append_right→aI,length_append→aN,mem_map→aQ,mem_append→aU,map_map→aV,map_cons→aW,mem_of_getElem?→aY,getElem?_map→aZ,mem_cons→bA,size_toArray→bC,length_cons→bD,nodup_append→bE,append_nil→bG,map_append→bK,mem_append_left→bL,range→bR,nodup_cons→bS,mem_singleton_self→bX,map_congr_left→cF,nodup_nil→cI,getD→cK,extract_eq_take_drop→cR,mem_range→cU,filter_eq_self→cV,zip_cons_cons→cW,eraseIdx_eq_take_drop_succ→dD,length_take→dH,append_assoc→dI,getElem?_of_mem→dO,mem_of_mem_drop→dP,mem_of_mem_take→dQ,lookup_cons→dS,mem_flatMap→dU,getElem?_append_left→dX,drop_eq_getElem_cons→dY,replicate→eC,map_nil→eF,getElem_map→eG,take_add_one→eP,take_of_length_le→eQ,getElem_of_mem→eU,not_mem_nil→eX,getElem?_eq_getElem→fA,foldl_append→fG,length_range→fH,length_drop→fM,getElem?_append_right→fO,take_append_drop→fP,mem_filter→fV,find?_cons→fW,length_nil→fX,take_length→gD,eq_nil_of_length_eq_zero→gI,getElem?_set_self→gL,getElem?_eq_none→gR,perm_append_comm→gS,getElem?_set_ne→iE,lookup→iF,all_eq_true→iL,getElem_mem→iM,filterMap_cons→iU,length_pos_iff→iV,mem_of_mem_eraseIdx→iZ,length_zip→jD,pairwise_singleton→jK,drop_of_length_le→jP,length_filter_le→jV,getElem_inj→jW,any_eq_true→jX,prefix_refl→jY,any_cons→kC,map_take→kE,map_drop→kG,map_id→kI,dropLast_concat_getLast→kS,pairwise_cons→lQ,ext_getElem?→mM,pairwise_map→mO,perm_middle→nH,of_mem_zip→oE,set_getElem_self→oZ,eraseIdx_sublist→pA,pairwise_append→pH,filter_append→rC,ext_getElem→tX,length→wY,nil_append→xA,getElem?_concat_length→xN,drop_drop→yZ
open PySem.Heap renaming get?_push_of_some→aF,lt_size→aP,get?_push_size→bN,get?_update_other→cP,get?_update_self→fQ,size_push→lR,size_update→nI
open Nat renaming le_refl→aJ,lt_of_lt_of_le→aS,ne_of_lt→bQ,le_trans→cD,lt_of_le_of_lt→cN,zero_le→cQ,le_of_lt→dA,lt_irrefl→eD,lt_succ_self→gG,le_succ→gM,le_of_ble_eq_true→hZ,ne_of_gt→jR,lt_succ_of_lt→mR,lt_trans→oF,not_lt→oH,min_self→oI,zero_add→oJ,pow_le_pow_right→pP,le_of_eq→sT,sub_self→sV,min_eq_left→xO
open Bool renaming false_ne_true→bH,and_eq_true→bO,false_eq_true→bZ,eq_iff_iff→gQ,not_eq_true'→sJ,or_eq_true→xC,false_and→zA,and_false→zB
open Option renaming some→bM,map_eq_some_iff→eO,isSome_iff_exists→mD,isSome_map→rD,map_some→tY
open Array renaming length_toList→cO,toList_append→cX,getElem?_toList→dE,toList_extract→dF,perm_iff_toList_perm→fN,size_extract→jE,toList_push→jN,toList_reverse→kH,toList_inj→sX,toList_map→sY
open Int renaming emod_lt_of_pos→cS,emod_nonneg→cZ,toNat_natCast→dJ,ne_of_gt→iS,toNat→pQ,zero_add→sW,le_refl→xB
open PySem.F renaming args_tuple_add_2→mC,entry_tuple_add→mP,plainAttrs_list→mQ,slot_tuple_add→nD,slot_dict_setdefault→tF,excBase_ValueError→wZ,slot_dict_getitem→xD,slot_list_append→xQ,type_list_append→xR,plainAttrs_dict→zC,plain_list_iadd→zD
open List renaming getElem?_zip_eq_some→aAd,pairwise_iff_getElem→aAe,getElem?_take_of_lt→aAC,length_eq_zero_iff→aBH,sum_cons→aBI,range_succ_eq_map→aCy,drop_eq_nil_of_le→aCz,cons→aCB,reverse_reverse→aFx,length_eraseIdx→aFy,take_succ_cons→aFA,getElem?_range→aFB,reverse_append→aFC,mem_filterMap→aHt,getElem_range→aHu,any_toArray→aKS,drop_length→aKT,length_set→aLj,zip_append→aLk,sum_append→aLl,take_zero→aNC,all_cons→aNR
open Int renaming fdiv_eq_ediv_of_nonneg→aAf,natAbs_natCast→aIy
open PySem.W renaming methodCall_KW→aAD,codeRec_of→aCD,mg_none_of→aCE,specialIn→aFz,handedIn→aFE,subIn→aKU,clsIn→aKV
open PySem.F renaming slot_dict_pop→aAE
open Array renaming getElem?_eq_none→aBJ,getElem?_modify→aCA,toList→aNU
open Nat renaming mul_le_mul_right→aFD,not_le_of_lt→aLm,mul_le_mul→aNS,add_assoc→aPb,succ_mul→aPE
open Bool renaming eq_false_iff→aIz
open PySem.Heap renaming get?_push_ne→aIA
open Option renaming none→aNT
open PySem renaming Value→BD,Shared→BE,Addr→BF,Around→BG,Heap→BH,Obj→BI,Stmt→BJ,SetTable→BL
open PyProof.Rows renaming SortSt→BK
namespace L2
open PySem PySem.Spec PyProof.Rows
noncomputable abbrev Key:=Sum Int Str
noncomputable def yS:Key->BD->Bool
 |.inl k,v=>Value.isInt k v
 |.inr x,v=>Value.isStrOf x v
noncomputable def keyH(w:AL):Key->Int
 |.inl k=>hashInt k
 |.inr x=>hashStr w x
theorem fR:∀ {k:Key}{v:BD},yS k v=true->(∃i t,k=Sum.inl i/\v=Value.int i t)\/(∃x t,k=Sum.inr x/\v=Value.str x t)
 |.inl i,v,h=>by obtain⟨t,e⟩:=Value.isInt_shape (k:=i) (v:=v) h;exact .inl ⟨i,t,rfl,e⟩
 |.inr x,v,h=>by obtain⟨t,e⟩:=Value.isStrOf_shape (x:=x) (v:=v) h;exact .inr ⟨x,t,rfl,e⟩
theorem aFt(i:Int)(t:Tok):yS (.inl i) (.int i t)=true:=by simp[yS,Value.isInt]
theorem aEA(x:Str)(t:Tok):yS (.inr x) (.str x t)=true:=by simp[yS,Value.isStrOf]
theorem aNk(a b:Int):decide ((Sum.inl a:Key)=Sum.inl b)=(a==b):=by
 by_cases e:a=b
 ·subst e;simp
 ·have h:¬ (Sum.inl a:Key)=Sum.inl b:=λq=>e (Sum.inl.inj q)
  rw[decide_eq_false h];exact(beq_eq_false_iff_ne.mpr e).symm
theorem aMU(a b:Str):decide ((Sum.inr a:Key)=Sum.inr b)=decide (a=b):=by
 by_cases e:a=b
 ·subst e;simp
 ·have h:¬ (Sum.inr a:Key)=Sum.inr b:=λq=>e (Sum.inr.inj q)
  rw[decide_eq_false h,decide_eq_false e]
theorem aMv(a:Int)(b:Str):decide ((Sum.inl a:Key)=Sum.inr b)=false:=decide_eq_false λq=>nomatch q
theorem aMW(a:Str)(b:Int):decide ((Sum.inr a:Key)=Sum.inl b)=false:=decide_eq_false λq=>nomatch q
noncomputable def eA(prog:AE)(w:AL):PySem.KeyKind prog w Key where
 is:=yS
 hash:=keyH w
 inj:=λv a b ha hb=>by
  rcases fR ha with⟨i,t,rfl,rfl⟩|⟨x,t,rfl,rfl⟩
  ·rcases fR hb with⟨j,u,rfl,e⟩|⟨y,u,rfl,e⟩
   ·injection e with e1 _;rw[e1]
   ·exact nomatch e
  ·rcases fR hb with⟨j,u,rfl,e⟩|⟨y,u,rfl,e⟩
   ·exact nomatch e
   ·injection e with e1 _;rw[e1]
 byValue:=λk v h=>by rcases fR h with⟨i,t,rfl,rfl⟩|⟨x,t,rfl,rfl⟩<;>rfl
 pyHash:=λhv h=>by
  rcases fR hv with⟨i,t,rfl,rfl⟩|⟨x,t,rfl,rfl⟩
  ·exact wpAny_pyHash_int h
  ·exact wpAny_pyHash_str h
 eqBool:=λhu hv h=>by
  rcases fR hu with⟨i,t,rfl,rfl⟩|⟨x,t,rfl,rfl⟩
  ·rcases fR hv with⟨j,u,rfl,rfl⟩|⟨y,u,rfl,rfl⟩
   ·rw[aNk] at h;exact wpAny_eqBool_int h
   ·rw[aMv] at h;exact SeqAt.EqAt.int_str i t y u _ _ _ _ h
  ·rcases fR hv with⟨j,u,rfl,rfl⟩|⟨y,u,rfl,rfl⟩
   ·rw[aMW] at h;exact SeqAt.EqAt.str_int x t j u _ _ _ _ h
   ·rw[aMU] at h;exact wpAny_eqBool_str h
 «strs»:=λk x t v h=>by
  rcases fR h with⟨i,u,rfl,e⟩|⟨y,u,rfl,e⟩
  ·exact nomatch e
  ·injection e with e1 _
   subst e1;cases v<;>rfl
theorem aAw(prog:AE)(w:AL)(i:Int)(t:Tok):(eA prog w).is (.inl i) (.int i t)=true:=aFt i t
theorem aAx(prog:AE)(w:AL)(x:Str)(t:Tok):(eA prog w).is (.inr x) (.str x t)=true:=aEA x t
inductive V where
 |non|bl (b:Bool)|int (i:Int)|str (x:Str)|byt (b:Array UInt8)|flt (b:UInt64)|ref (a:BF)|ty (n:String)
 deriving DecidableEq
noncomputable def RelV:V->BD->Prop
 |.non,u=>u=Value.none
 |.bl b,u=>u=Value.bool b
 |.int i,u=>∃t,u=Value.int i t
 |.str x,u=>∃t,u=Value.str x t
 |.byt b,u=>∃t,u=Value.bytes b t
 |.flt b,u=>∃t,u=Value.float b t
 |.ref a,u=>u=Value.ref a
 |.ty n,u=>u=Value.type n
abbrev Vals:List V->List BD->Prop:=Paired RelV
theorem Vals.length{xs:List V}{us:List BD}(r:Vals xs us):xs.length=us.length:=Paired.length r
theorem Vals.get:∀ {xs:List V}{us:List BD}{i:Nat}{x:V},Vals xs us->xs[i]? =some x->∃u,us[i]? =some u/\RelV x u
 |_,_,_,_,.nil,e=>by simp at e
 |_,_,0,_,.cons r _,e=>by simp at e;subst e;exact⟨_,rfl,r⟩
 |_,_,i+1,x,.cons _ t,e=>by obtain⟨u,h1,h2⟩:=Vals.get (i:=i) (x:=x) t (by simpa using e);exact⟨u,by simpa using h1,h2⟩
theorem Vals.append:∀ {xs ys:List V}{us ws:List BD},Vals xs us->Vals ys ws->Vals (xs++ys) (us++ws)
 |_,_,_,_,.nil,s=>s
 |_,_,_,_,.cons r t,s=>.cons r<|Vals.append t s
theorem Vals.take:∀ {xs:List V}{us:List BD} (n:Nat),Vals xs us->Vals (xs.take n) (us.take n)
 |_,_,0,_=>.nil
 |_,_,_+1,.nil=>.nil
 |_,_,n+1,.cons r t=>.cons r<|Vals.take n t
theorem Vals.drop:∀ {xs:List V}{us:List BD} (n:Nat),Vals xs us->Vals (xs.drop n) (us.drop n)
 |_,_,0,r=>r
 |_,_,_+1,.nil=>.nil
 |_,_,n+1,.cons _ t=>Vals.drop n t
noncomputable def RelO:Option V->Option BD->Prop
 |some v,some u=>RelV v u
 |none,none=>True
 |_,_=>False
def KV{κ:Type}:List (κ×V)->List (κ×BD)->Prop:=Paired λ(p:κ×V) (q:κ×BD)=>p.1=q.1/\RelV p.2 q.2
noncomputable def kV:Key->V
 |.inl i=>.int i
 |.inr x=>.str x
inductive HO where
 /-- a list -/
 |lst (xs:List V)
 /-- a tuple (never changes) -/
 |tup (xs:List V)
 /-- a dict whose keys are ints and texts;one whose keys are tuples of ints and texts (the empty one is both) -/
 |dK (kvs:List (Key×V))|dT (kvs:List (List Key×V))
 /-- a set of ints:its members,its size -/
 |set (S:Int->Bool) (n:Nat)
 /-- an instance of the class at C,its dict at dx,its attributes -/
 |ins (C dx:BF) (fs:List (Str×V))
 /-- the dict of the instance at x -/
 |own (x:BF)
 /-- the dict of an exception -/
 |xd (fs:List (Str×V))
 /-- a bound method,f of x -/
 |met (f x:BF)
 /-- a range object lo,lo+1, .. below hi -/
 |rng (lo hi:Int)
 /-- a thing that is known to the object (the script;a dict while a loop walks it):read,never written while it is so -/
 |frz (o:BI) (u:HO)
 /-- a code object's table -/
 |tbl (ps:Array BD)
 /-- any other thing,by what is true of its one object (a def of one's own:SetO a S n:=HO.ext λh=> ..) -/
 |ext (φ:BH->Prop)
noncomputable abbrev Hp:=BF->Option HO
noncomputable def upd(H:Hp)(a:BF)(o:HO):Hp:=λb=>if b=a then some o else H b
theorem bJ{H:Hp}{a:BF}{o:HO}:upd H a o a=some o:=by unfold upd;rw[if_pos rfl]
theorem aR{H:Hp}{a b:BF}{o:HO}(h:b≠a):upd H a o b=H b:=by unfold upd;rw[if_neg h]
theorem aOV{H:Hp}{a b:BF}{o u:HO}(h:H a=some o)(h':H b=some u)(d:o≠u):a≠b:=by intro e;subst e;rw[h] at h';exact d<|bM.inj h'
theorem cC{H:Hp}{a b:BF}{o:HO}(h:H a=some o)(h':H b=none):a≠b:=by intro e;subst e;rw[h] at h';cases h'
def IsTupD(h:BH)(a:BF)(items:Array BD):Prop:=∃o,h.get? a=some o/\o.cls=.type "tuple"/\(∃n,o.data=.seq items n)/\o.dict=none
theorem IsTupD.tup{h:BH}{a:BF}{items:Array BD}(x:IsTupD h a items):IsTup h a items:=let ⟨o,e,c,d,_⟩:=x;⟨o,e,c,d⟩
theorem IsTupD.new(h:BH)(items:Array BD):IsTupD (h.push {cls:=.type "tuple",data:=.seq items}) h.objs.size items:=⟨_,bN _ rfl,rfl,⟨_,rfl⟩,rfl⟩
variable (P:AE)(w:AL)
noncomputable def ObjOk(H:Hp)(h:BH)(a:BF):HO->Prop
 |.lst xs=>xs.length<=AM/\∃ (its:List BD) (n:Nat),Vals xs its/\h.get? a=some {cls:=.type "list",data:=.seq its.toArray n}
 |.tup xs=>xs.length<=AM/\∃its:List BD,Vals xs its/\IsTupD h a its.toArray
 |.dK kvs=>kvs.length<=AM/\(a==AZ)=false/\∃vs,KV kvs vs/\h.DictOf (eA P w) a vs
 |.dT kvs=>kvs.length<=AM/\(a==AZ)=false/\∃xs:List (List Key×BF×BD),
   Paired (λ(p:List Key×V) (q:List Key×BF×BD)=>p.1=q.1/\H q.2.1=some (.tup<|p.1.map kV)/\RelV p.2 q.2.2) kvs xs/\
   ∃o es ep,h.get? a=some o/\o.ExactDict/\o.data=.dict es ep/\es.toList=xs.map (entryOfKey (Af<|eA P w))/\(xs.map (·.1)).Nodup
 |.set S n=>h.SetOf (intKind P w) a S n
 |.ins C dx fs=>H dx=some (.own a)/\fs.length<=1000/\dx≠a/\h.get? a=some (cB C dx)/\
   ∃mA,h.Ns1 dx mA/\(∀f,RelO (fs.lookup f)<|mA f)/\PySem.Within mA (fs.map (·.1))
 |.own _=>∃o,h.get? a=some o
 |.xd fs=>∃mA,h.Ns1 a mA/\∀f,RelO (fs.lookup f)<|mA f
 |.rng lo hi=>∃t u v,h.get? a=some {cls:=.type "range",data:=.fields #[.int lo t,.int hi u,.int 1 v]}
 |.frz o u=>h.get? a=some o/\ObjOk H h a u
 |.tbl ps=>h.get? a=some {cls:=.none,data:=.fields ps}
 |.met f x=>h.get? a=some (rA (.ref f)<|.ref x)
 |.ext φ=>φ h/\(∃o,h.get? a=some o)/\∀h1 h2:BH,φ h1->(∀o,h1.get? a=some o->h2.get? a=some o)->φ h2
def HOk(H:Hp)(h:BH):Prop:=∀a o,H a=some o->ObjOk P w H h a o
variable {P:AE}{w:AL}{H H':Hp}{h h':BH}{a:BF}{o:HO}
theorem ObjOk.lt(x:ObjOk P w H h a o):a<h.objs.size:=by
 cases o with
 |lst xs=>obtain⟨_,_,_,_,e⟩:=x;exact aP e
 |tup xs=>obtain⟨_,_,_,p⟩:=x;exact p.tup.lt
 |dK kvs=>obtain⟨_,_,_,_,o,_,_,e,_⟩:=x;exact aP e
 |dT kvs=>obtain⟨_,_,_,_,o,_,_,e,_⟩:=x;exact aP e
 |set S n=>obtain⟨o,_,_,_,e,_⟩:=x;exact aP e
 |ins C dx fs=>obtain⟨_,_,_,e,_⟩:=x;exact aP e
 |own y=>obtain⟨_,e⟩:=x;exact aP e
 |xd fs=>obtain⟨_,⟨_,_,_,e,_⟩,_⟩:=x;exact aP e
 |rng lo hi=>obtain⟨_,_,_,e⟩:=x;exact aP e
 |frz ob u=>obtain⟨e,_⟩:=x;exact aP e
 |tbl ps=>exact aP (show h.get? a=some _ from x)
 |met f y=>exact aP (show h.get? a=some _ from x)
 |ext φ=>obtain⟨_,⟨_,e⟩,_⟩:=x;exact aP e
theorem Paired.mapP{α β:Type}{F G:α->β->Prop}:∀ {l₁:List α}{l₂:List β},Paired F l₁ l₂->(∀a b,F a b->G a b)->Paired G l₁ l₂
 |_,_,.nil,_=>.nil
 |_,_,.cons r t,f=>.cons (f _ _ r)<|Paired.mapP t f
theorem ObjOk.stay(x:ObjOk P w H h a o)(k:∀b u,(b=a\/H b=some (.own a))->h.get? b=some u->h'.get? b=some u)
  (ho:∀b,H b=some (.own a)->H' b=some (.own a)) (ht:∀b xs,H b=some (.tup xs)->H' b=some (.tup xs)):ObjOk P w H' h' a o:=by
 induction o with
 |lst xs=>obtain⟨z,its,n,r,e⟩:=x;exact⟨z,its,n,r,k _ _ (.inl rfl) e⟩
 |tup xs=>obtain⟨z,its,r,ob,e,c⟩:=x;exact⟨z,its,r,ob,k _ _ (.inl rfl) e,c⟩
 |dK kvs=>obtain⟨z,y,vs,r,ob,es,ep,e,c⟩:=x;exact⟨z,y,vs,r,ob,es,ep,k _ _ (.inl rfl) e,c⟩
 |dT kvs=>obtain⟨z,y,xs,r,ob,es,ep,e,c⟩:=x;exact⟨z,y,xs,Paired.mapP r λp q z=>⟨z.1,ht _ _ z.2.1,z.2.2⟩,ob,es,ep,k _ _ (.inl rfl) e,c⟩
 |set S n=>obtain⟨ob,es,ep,t,e,c⟩:=x;exact⟨ob,es,ep,t,k _ _ (.inl rfl) e,c⟩
 |ins C dx fs=>obtain⟨d,z,ne,e,mA,⟨od,es,ep,e2,c⟩,r⟩:=x;exact⟨ho _ d,z,ne,k _ _ (.inl rfl) e,mA,⟨od,es,ep,k _ _ (.inr d) e2,c⟩,r⟩
 |own y=>obtain⟨ob,e⟩:=x;exact⟨ob,k _ _ (.inl rfl) e⟩
 |xd fs=>obtain⟨mA,⟨od,es,ep,e,c⟩,r⟩:=x;exact⟨mA,⟨od,es,ep,k _ _ (.inl rfl) e,c⟩,r⟩
 |rng lo hi=>obtain⟨t,u,v,e⟩:=x;exact⟨t,u,v,k _ _ (.inl rfl) e⟩
 |frz ob u ih=>obtain⟨e,q⟩:=x;exact⟨k _ _ (.inl rfl) e,ih q⟩
 |tbl ps=>have e:h.get? a=some {cls:=.none,data:=.fields ps}:=x;show h'.get? a=some {cls:=.none,data:=.fields ps};exact k a _ (.inl rfl) e
 |met f y=>have e:h.get? a=some (rA (.ref f)<|.ref y):=x;show h'.get? a=some (rA (.ref f)<|.ref y);exact k a _ (.inl rfl) e
 |ext φ=>obtain⟨p,⟨o,e⟩,st⟩:=x;exact⟨st _ _ p λo q=>k _ _ (.inl rfl) q,⟨o,k _ _ (.inl rfl) e⟩,st⟩
theorem HOk.lt(x:HOk P w H h)(e:H a=some o):a<h.objs.size:=(x a o e).lt
theorem HOk.fresh(x:HOk P w H h)(e:h.objs.size<=a):H a=none:=by
 cases q:H a with
 |none=>rfl
 |some u=>exact absurd (aS (x.lt q) e)<|eD _
theorem HOk.kept(x:HOk P w H h)(k:∀b u,h.get? b=some u->h'.get? b=some u):HOk P w H h':=λa o e=>(x a o e).stay (λb u _ q=>k b u q) (λ_ q=>q) λ_ _ q=>q
theorem HOk.laid(x:HOk P w H h)(k:∀b u,h.get? b=some u->h'.get? b=some u)(hp:h.objs.size<=a)(new:ObjOk P w (upd H a o) h' a o):HOk P w (upd H a o) h':=λb u e=>by
 have hn:=x.fresh hp
 by_cases hb:b=a
 ·subst hb;rw[bJ] at e;cases e;exact new
 ·rw[aR hb] at e;exact(x b u e).stay (λc v _ q=>k c v q) (λc q=>by rw[aR<|cC q hn];exact q) λc xs q=>by rw[aR<|cC q hn];exact q
def Rd(H:Hp)(a:BF)(u:HO):Prop:=H a=some u\/∃o,H a=some (.frz o u)
theorem Rd.ok{u:HO}(r:Rd H a u)(x:HOk P w H h):ObjOk P w H h a u:=by
 rcases r with r|⟨o,r⟩
 ·exact x a u r
 ·obtain⟨_,q⟩:=x a _ r;exact q
noncomputable def Mut:Option HO->Prop
 |some (.lst _)=>True
 |some (.dK _)=>True
 |some (.dT _)=>True
 |some (.set _ _)=>True
 |some (.ins _ _ _)=>True
 |some (.ext _)=>True
 |_=>False
variable {x e:BF}{o':HO}
theorem HOk.write(ok:HOk P w H h)(mu:Mut (H x))(he:e=x\/H e=some (.own x))(k:∀b u,b≠e->h.get? b=some u->h'.get? b=some u)(heo:∃u,h'.get? e=some u)
  (new:ObjOk P w (upd H x o') h' x o'):HOk P w (upd H x o') h':=λb u q=>by
 have nown:∀c y,H c=some (.own y)->c≠x:=λc y r z=>by subst z;rw[r] at mu;exact mu
 have ntup:∀c xs,H c=some (.tup xs)->c≠x:=λc xs r z=>by subst z;rw[r] at mu;exact mu
 by_cases hb:b=x
 ·subst hb;rw[bJ] at q;cases q;exact new
 ·rw[aR hb] at q
  by_cases hbe:b=e
  ·have q':H b=some (.own x):=by
    rcases he with z|z
    ·exact absurd (hbe.trans z) hb
    ·rw[hbe];exact z
   rw[q] at q';cases q';obtain⟨v,hv⟩:=heo;exact⟨v,by rw[hbe];exact hv⟩
  ·refine(ok b u q).stay (λc v hc r=>k c v ?_ r) (λc r=>by rw[aR<|nown c b r];exact r) λc xs r=>by rw[aR<|ntup c xs r];exact r
   rcases hc with rfl|hc
   ·exact hbe
   ·rintro rfl
    rcases he with z|z
    ·exact nown c b hc z
    ·rw[hc] at z;cases z;exact hb rfl
structure Un(fs ex:List BF)(H H':Hp)(h h':BH):Prop where
 keep:∀b o,h.get? b=some o->H b=none->b∉fs->b∉ex->h'.get? b=some o
 slot:∀b o,h.get? b=some o->H b=none->b∈fs->b∉ex->∃sl,h'.get? b=some {o with slots:=sl}
 free:∀b o,h.get? b=some o->H b=none->b∉ex->H' b=none
 there:∀b o,h.get? b=some o->b∉ex->∃o',h'.get? b=some o'
 tups:∀b xs,H b=some (.tup xs)->H' b=some (.tup xs)
 frzs:∀b o u,H b=some (.frz o u)->H' b=some (.frz o u)
 tbls:∀b ps,H b=some (.tbl ps)->∃more,H' b=some (.tbl<|ps++more)
section
variable {fs fs' ex ex':List BF}{H H1 H2:Hp}{h h1 h2 h':BH}{a x e:BF}{o:HO}
theorem Un.any(u:Un fs ex H H1 h h1){b:BF}{ob:BI}(q:h.get? b=some ob)(n:H b=none)(hx:b∉ex):∃sl,h1.get? b=some {ob with slots:=sl}:=by
 by_cases hb:b∈fs
 ·exact u.slot b ob q n hb hx
 ·exact⟨ob.slots,u.keep b ob q n hb hx⟩
theorem Un.kept(k:∀b u,h.get? b=some u->h'.get? b=some u):Un fs ex H H h h':=
 ⟨λb ob q _ _ _=>k b ob q,λb ob q _ _ _=>⟨ob.slots,k b ob q⟩,λ_ _ _ n _=>n,λb ob q _=>⟨ob,k b ob q⟩,λ_ _ q=>q,λ_ _ _ q=>q,λ_ ps q=>⟨#[],by rw[q];simp⟩⟩
theorem Un.refl:Un fs ex H H h h:=Un.kept λ_ _ q=>q
theorem Un.laid(k:∀b u,h.get? b=some u->h'.get? b=some u)(hp:h.objs.size<=a)(hn:H a=none):Un fs ex H (upd H a o) h h' where
 keep:=λb u q _ _ _=>k b u q
 slot:=λb u q _ _ _=>⟨u.slots,k b u q⟩
 free:=λb u q n _=>by rw[aR (bQ<|aS (aP q) hp)];exact n
 there:=λb u q _=>⟨u,k b u q⟩
 tups:=λb xs q=>by rw[aR<|cC q hn];exact q
 frzs:=λb u xs q=>by rw[aR<|cC q hn];exact q
 tbls:=λb ps q=>⟨#[],by rw[aR<|cC q hn,q];simp⟩
theorem Un.write(mu:Mut (H x))(he:e=x\/H e=some (.own x))(k:∀b u,b≠e->h.get? b=some u->h'.get? b=some u)(heo:∃u,h'.get? e=some u):Un fs ex H (upd H x o) h h':=by
 have hx:∀b,H b=none->b≠x:=λb n z=>by subst z;rw[n] at mu;exact mu
 have hb:∀b,H b=none->b≠e:=λb n z=>by
  subst z
  rcases he with r|r
  ·exact hx b n r
  ·rw[n] at r;cases r
 have hm:∀b u,H b=some u->¬ Mut (some u)->b≠x:=λb u q nm z=>by subst z;rw[q] at mu;exact nm mu
 refine ⟨fun b u q n _ _=>k b u (hb b n) q,fun b u q n _ _=>⟨u.slots,k b u (hb b n) q⟩,fun b u q n _=>by rw [aR (hx b n)]; exact n,fun b u q _=> ?_,
  λb xs q=>by rw[aR (hm b _ q λz=>z)];exact q,λb u xs q=>by rw[aR (hm b _ q λz=>z)];exact q,λb ps q=>⟨#[],by rw[aR (hm b _ q λz=>z),q];simp⟩⟩
 by_cases hbe:b=e
 ·subst hbe;exact heo
 ·exact⟨u,k b u hbe q⟩
end
noncomputable def trk(h:BH)(H:Hp):List BF:=(bR h.objs.size).filter λa=>(H a).isSome
noncomputable def zL(h:BH)(H:Hp):BH:=PySem.W.hideAll h<|trk h H
theorem aEs(h:BH)(H:Hp):(zL h H).objs.size=h.objs.size:=PySem.W.hideAll_size _ _
theorem aGP{b:BF}{o:BI}(e:h.get? b=some o)(n:H b=none):(zL h H).get? b=some o:=
 PySem.W.hideAll_get _ e λhm=>by have q:(H b).isSome=true:=(fV.mp hm).2;rw[n] at q;simp at q
theorem aJS{b:BF}{o:BI}(e:(zL h H).get? b=some o):h.get? b=some o/\H b=none:=by
 have e':h.get? b=some o:=PySem.W.of_hideAll (trk h H) e;refine⟨e', ?_⟩;cases q:H b with
 |none=>rfl
 |some x=>have hm:b∈trk h H:=fV.mpr ⟨cU.mpr<|aP e',by simp[q]⟩;have z:(zL h H).get? b=none:=PySem.W.hideAll_none (trk h H) hm;rw[z] at e;cases e
noncomputable def aJy(g h:BH)(L:BF):List (BF×BI):=(bR h.objs.size).filterMap λa=>if a=L\/(g.get? a).isSome=true then none else(h.get? a).map λo=>(a,o)
noncomputable def rest(g h:BH)(L d:BF):List (BF×BI):=(aJy g h L).filter λp=>decide<|p.1≠d
structure Mod(K:aA)(mg:Str->Option BD)(base:BH):Prop where
 kin:K.In base
 glob:base.Ns AO mg
 blt:∃mb,base.Ns builtinsNs mb/\∀x:Str,x≠"__name__"->mb x=Ai x
 nolimit:base.NoLimit
noncomputable def mY:HO->Prop
 |.lst _=>False
 |.dK _=>False
 |.ext _=>False
 |_=>True
structure Cx where
 prog:AE
 w:AL
 K:aA
 mg:Str->Option BD
 base:BH
 A:BG
 N:List Str
 s₀:BE
 H₀:Hp
 env:Env
 outer:List Env
 stack:List Env
 ex:List BF
 fn:Str->Bool
 calm:Bool
 pn:List (BF×BI)
 xe:BD->BE->Prop
 B₀:Hp:=H₀
 hB:∀b o,H₀ b=some o->mY o->B₀ b=some o:=by intro b o e _;exact e
noncomputable def frs(l:List Env):List BF:=l.filterMap (·.frame)
noncomputable abbrev Cx.fs(X:Cx):List BF:=frs X.outer
def Vis(sc:Scope)(x:Str):Prop:=sc.names.lookup x=some .local\/sc.names.lookup x=some .cell\/sc.names.lookup x=some .free
def Loc(sc:Scope)(x:Str):Prop:=sc.names.lookup x=some .local\/sc.names.lookup x=some .cell
def aPr(env:Env)(h:BH)(m:Str->Option BD)(x:Str)(u:BD):Prop:=
 (env.kindOf x=some .local/\m x=some u)\/((env.kindOf x=some .cell\/env.kindOf x=some .free)/\∃c,env.cells.lookup x=some c/\h.IsCell c (some u))
structure Cx.Ok(X:Cx):Prop where
 mod:Mod X.K X.mg X.base
 kind:X.env.scope.kind=.function
 glob:X.env.globals=AO
 blt:X.env.builtins=builtinsNs
 above:X.s₀.heap.objs.size<=X.env.locals
 inj:∀x y c,X.env.cells.lookup x=some c->X.env.cells.lookup y=some c->x=y
 has:∀x,(X.env.kindOf x=some .cell\/X.env.kindOf x=some .free)->∃c,X.env.cells.lookup x=some c
 cab:∀x c,X.fn x=true->X.env.cells.lookup x=some c->X.s₀.heap.objs.size<=c
 hd:X.calm=true->X.A.handled=none
 frames:X.A.frames=some X.stack
 stk:X.stack=X.outer\/(X.stack=X.env::X.outer/\X.env.frame=some X.env.locals)
 exf:∀b∈X.ex,b≠X.env.locals/\∀x c,X.env.cells.lookup x=some c->c≠b
 bs:∀b o,X.base.get? b=some o->X.s₀.heap.get? b=some o/\X.H₀ b=none
 bsz:X.base.objs.size<=X.s₀.heap.objs.size
 noex:∀b o,X.base.get? b=some o->b∉X.ex
 exfs:∀b∈X.ex,b∉X.fs
 funs:X.s₀.heap.FunFrames X.base X.outer
 frf:∀b∈X.fs,X.H₀ b=none
structure Inv(X:Cx)(pins:List (BF×BI))(σ:List (Option V))(H:Hp)(s:BE):Prop where
 ok:X.Ok
 os:s.os=X.s₀.os
 bare:AllBare s.gens
 base:Un X.fs X.ex X.H₀ H X.s₀.heap s.heap
 loc:∃m,s.heap.Ns X.env.locals m/\∀ (i:Nat) (x:Str) (v:V),X.N[i]? =some x->σ[i]? =some (some v)->Vis X.env.scope x->∃u,RelV v u/\aPr X.env s.heap m x u
 cell:∀x c,X.env.cells.lookup x=some c->∃v,s.heap.IsCell c v
 free:H X.env.locals=none
 freeC:∀x c,X.env.cells.lookup x=some c->H c=none
 pin:∀p∈X.pn++pins,s.heap.get? p.1=some p.2/\H p.1=none/\p.1≠X.env.locals/\p.1∉X.fs/\∀v,p.2.data≠ .cell v
 hok:HOk X.prog X.w H s.heap
 len:σ.length=X.N.length
variable {X:Cx}{pins:List (BF×BI)}{σ:List (Option V)}{s:BE}
theorem Cx.Ok.nofr(ok:X.Ok){b:BF}{o:BI}(e:X.base.get? b=some o):b∉X.fs:=λhb=>by have:=(ok.funs.mem hb).1;rw[e] at this;cases this
theorem Inv.bs(I:Inv X pins σ H s):∀b o,X.base.get? b=some o->s.heap.get? b=some o/\H b=none:=λb o e=>⟨I.base.keep b o (I.ok.bs b o e).1 (I.ok.bs b o e).2 (I.ok.nofr e)<|I.ok.noex b o e,I.base.free b o (I.ok.bs b o e).1 (I.ok.bs b o e).2<|I.ok.noex b o e⟩
theorem Inv.bk(I:Inv X pins σ H s):∀b o,X.base.get? b=some o->s.heap.get? b=some o:=λb o e=>(I.bs b o e).1
theorem Inv.mod(I:Inv X pins σ H s):Mod X.K X.mg X.base:=I.ok.mod
theorem Inv.kIn(I:Inv X pins σ H s):X.K.In s.heap:=I.ok.mod.kin.keeps I.bk
theorem Inv.lt(I:Inv X pins σ H s):X.env.locals<s.heap.objs.size:=let ⟨_,hn,_⟩:=I.loc;hn.lt
theorem Inv.sz(I:Inv X pins σ H s):X.s₀.heap.objs.size<=s.heap.objs.size:=cD I.ok.above<|dA I.lt
theorem Inv.nofs(I:Inv X pins σ H s)(h:s.heap.objs.size<=a):a∉X.fs:=λhb=>by obtain⟨_,o,ho,_⟩:=I.ok.funs.mem hb;exact absurd (aS (aP ho)<|cD I.sz h)<|eD _
theorem Inv.cne(I:Inv X pins σ H s):∀x c,X.env.cells.lookup x=some c->c≠X.env.locals:=λx c e z=>by obtain⟨v,o,ho,hd⟩:=I.cell x c e;obtain⟨m,⟨o',es,ep,ho',hd',_⟩,_⟩:=I.loc;rw[z,ho'] at ho;cases ho;rw[hd'] at hd;cases hd
theorem Inv.funs(I:Inv X pins σ H s):s.heap.FunFrames X.base X.outer:=by
 have all:∀ (l:List Env),(∀b∈frs l,b∈X.fs)->X.s₀.heap.FunFrames X.base l->s.heap.FunFrames X.base l:=by
  intro l
  induction l with
  |nil=>intro _ _;trivial
  |cons env r ih=>
   intro hs hl;obtain⟨hk,⟨L,o,hf,hn,ho,hd⟩,hr⟩:=hl;have hL:L∈X.fs:=hs L (by unfold frs;rw[iU,hf];exact aG);obtain⟨sl,e⟩:=I.base.slot L o ho (I.ok.frf L hL) hL λz=>I.ok.exfs L z hL
   exact⟨hk,⟨L,_,hf,hn,e,hd⟩,ih (λb hb=>hs b<|by unfold frs;rw[iU,hf];exact aE _ hb) hr⟩
 exact all X.outer (λ_ hb=>hb) I.ok.funs
theorem Inv.stack(I:Inv X pins σ H s):s.heap.FunFrames X.base X.stack:=by
 rcases I.ok.stk with e|⟨e,hf⟩
 ·rw[e];exact I.funs
 ·rw[e];obtain⟨m,hn,_⟩:=I.loc;refine .cons (by rw[I.ok.kind];decide) hf hn ?_ I.funs;exact Heap.get?_none_of_le<|cD I.ok.bsz I.ok.above
theorem Inv.stkSub(I:Inv X pins σ H s):∀b∈frs X.stack,b∈X.env.locals::X.fs:=λb hb=>by
 rcases I.ok.stk with e|⟨e,hf⟩
 ·rw[e] at hb;exact aE _ hb
 ·rw[e] at hb;unfold frs at hb;rw[iU,hf] at hb;exact hb
theorem Inv.stkFree(I:Inv X pins σ H s):∀b∈frs X.stack,H b=none:=λb hb=>by
 rcases bA.mp (I.stkSub b hb) with e|hb
 ·rw[e];exact I.free
 ·obtain⟨_,o,ho,_⟩:=I.ok.funs.mem hb;exact I.base.free b o ho (I.ok.frf b hb) λz=>I.ok.exfs b z hb
theorem Inv.step{g':Array GenState}{t':Nat}{d':Drawn}{ch:List BF}(I:Inv X pins σ H s)
  (hch:∀b∈ch,(b∈X.ex\/X.s₀.heap.objs.size<=b)/\b≠X.env.locals/\(∀x c,X.env.cells.lookup x=some c->c≠b)/\∀p∈X.pn++pins,p.1≠b)
  (keep:∀b o,b≠X.env.locals->b∉X.fs->b∉ch->s.heap.get? b=some o->H b=none->h'.get? b=some o)
  (slot:∀b o,b≠X.env.locals->b∈X.fs->b∉ch->s.heap.get? b=some o->H b=none->∃sl,h'.get? b=some {o with slots:=sl}) (free:∀b o,b∉ch->s.heap.get? b=some o->H b=none->H' b=none)
  (there:∀b o,b∉ch->s.heap.get? b=some o->∃o',h'.get? b=some o')
  (tups:∀b xs,H b=some (.tup xs)->H' b=some (.tup xs)) (frzs:∀b o u,H b=some (.frz o u)->H' b=some (.frz o u)) (tbls:∀b ps,H b=some (.tbl ps)->∃more,H' b=some (.tbl<|ps++more))
  (ns:∀m,s.heap.Ns X.env.locals m->h'.Ns X.env.locals m) (hok:HOk X.prog X.w H' h') (hg:AllBare g'):
  Inv X pins σ H' {s with heap:=h',gens:=g',drawn:=d',toks:=t'}:=by
 have neL:∀b o,X.s₀.heap.get? b=some o->b≠X.env.locals:=λb o e=>bQ<|aS (aP e) I.ok.above
 have neC:∀b o,X.s₀.heap.get? b=some o->b∉X.ex->b∉ch:=λb o e hx hb=>by
  rcases(hch b hb).1 with z|z
  ·exact hx z
  ·exact absurd (aS (aP e) z)<|eD _
 have cellK:∀x c,X.env.cells.lookup x=some c->∀v,s.heap.IsCell c v->h'.IsCell c v:=λx c e v ⟨o,ho,hd⟩=>by
  have nch:c∉ch:=λz=>(hch c z).2.2.1 x c e rfl
  by_cases hc:c∈X.fs
  ·obtain⟨sl,q⟩:=slot c o (I.cne x c e) hc nch ho<|I.freeC x c e;exact⟨_,q,hd⟩
  ·exact⟨o,keep c o (I.cne x c e) hc nch ho<|I.freeC x c e,hd⟩
 refine⟨I.ok,I.os,hg,⟨λb o e n hb hx=> ?_,λb o e n hb hx=> ?_,λb o e n hx=> ?_,λb o e hx=> ?_,λb xs e=>tups b xs<|I.base.tups b xs e,λb o xs e=>frzs b o xs<|I.base.frzs b o xs e,λb ps e=> ?_⟩, ?_,λx c e=> ?_, ?_,λx c e=> ?_,λp hp=> ?_,hok,I.len⟩
 ·exact keep b o (neL b o e) hb (neC b o e hx) (I.base.keep b o e n hb hx)<|I.base.free b o e n hx
 ·obtain⟨sl,e1⟩:=I.base.slot b o e n hb hx;obtain⟨sl',e2⟩:=slot b _ (neL b o e) hb (neC b o e hx) e1<|I.base.free b o e n hx;exact⟨sl',e2⟩
 ·obtain⟨o',e1⟩:=I.base.there b o e hx;exact free b o' (neC b o e hx) e1<|I.base.free b o e n hx
 ·obtain⟨o',e1⟩:=I.base.there b o e hx;exact there b o' (neC b o e hx) e1
 ·obtain⟨m1,e1⟩:=I.base.tbls b ps e;obtain⟨m2,e2⟩:=tbls b _ e1;exact⟨m1++m2,by rw[e2,Array.append_assoc]⟩
 ·obtain⟨m,hn,hl⟩:=I.loc;refine⟨m,ns m hn,λi x v e1 e2 e3=> ?_⟩;obtain⟨u,r,l⟩:=hl i x v e1 e2 e3;refine⟨u,r, ?_⟩
  rcases l with l|⟨k,c,e,z⟩
  ·exact .inl l
  ·exact .inr ⟨k,c,e,cellK x c e _ z⟩
 ·obtain⟨v,z⟩:=I.cell x c e;exact⟨v,cellK x c e v z⟩
 ·obtain⟨m,⟨o,_,_,ho,_⟩,_⟩:=I.loc;exact free _ o (λz=>(hch _ z).2.1 rfl) ho I.free
 ·obtain⟨v,o,ho,hd⟩:=I.cell x c e;exact free c o (λz=>(hch c z).2.2.1 x c e rfl) ho<|I.freeC x c e
 ·obtain⟨e,n,ne,nf,d⟩:=I.pin p hp;have nch:p.1∉ch:=λz=>(hch p.1 z).2.2.2 p hp rfl
  exact⟨keep p.1 p.2 ne nf nch e n,free p.1 p.2 nch e n,ne,nf,d⟩
theorem Inv.un{t':Nat}(I:Inv X pins σ H s)(u:Un X.fs [] H H' s.heap h')(hok:HOk X.prog X.w H' h'):Inv X pins σ H' {s with heap:=h',toks:=t'}:=by
 obtain⟨m,⟨o,es,ep,ho,r⟩,_⟩:=id I.loc;obtain⟨sl,hL⟩:=u.any ho I.free<|by simp
 exact I.step (g':=s.gens) (d':=s.drawn) (ch:=[]) (fun _ z=>nomatch z) (fun b o _ hb _ e n=>u.keep b o e n hb (by simp)) (fun b o _ hb _ e n=>u.slot b o e n hb (by simp)) (fun b o _ e n=>u.free b o e n (by simp)) (fun b o _ e=>u.there b o e (by simp)) u.tups u.frzs u.tbls (fun m' hm=>by
  obtain⟨o',es',ep',ho',r'⟩:=hm;rw[ho] at ho';cases ho'
  exact⟨_,es',ep',hL,r'⟩) hok I.bare
theorem Inv.call{g':Array GenState}{t':Nat}{d':Drawn}{ch:List BF}(I:Inv X pins σ H s)(u:Un (frs X.stack) ch H H' s.heap h')(hok:HOk X.prog X.w H' h')(hg:AllBare g')
  (hch:∀b∈ch,(b∈X.ex\/X.s₀.heap.objs.size<=b)/\b≠X.env.locals/\(∀x c,X.env.cells.lookup x=some c->c≠b)/\∀p∈X.pn++pins,p.1≠b):
  Inv X pins σ H' {s with heap:=h',gens:=g',drawn:=d',toks:=t'}:=by
 obtain⟨m,⟨o,es,ep,ho,r⟩,_⟩:=id I.loc;obtain⟨sl,hL⟩:=u.any ho I.free λz=>(hch _ z).2.1 rfl
 exact I.step (ch:=ch) hch (fun b o hL hb hc e n=>u.keep b o e n (fun z=>(bA.mp (I.stkSub b z)).elim hL hb) hc) (fun b o _ _ hc e n=>u.any e n hc) (fun b o hc e n=>u.free b o e n hc) (fun b o hc e=>u.there b o e hc) u.tups u.frzs u.tbls (fun m' hm=>by
  obtain⟨o',es',ep',ho',r'⟩:=hm;rw[ho] at ho';cases ho'
  exact⟨_,es',ep',hL,r'⟩) hok hg
theorem Inv.turned{t':Nat}{it:BF}(I:Inv X pins σ H s)(k:∀b o,b≠it->s.heap.get? b=some o->h'.get? b=some o)(hn:H it=none)(hL:it≠X.env.locals)
  (h1:it∈X.ex\/X.s₀.heap.objs.size<=it) (h2:∀x c,X.env.cells.lookup x=some c->c≠it) (h3:∀p∈X.pn++pins,p.1≠it):Inv X pins σ H {s with heap:=h',toks:=t'}:=by
 have nit:∀b u,H b=some u->b≠it:=λb u e z=>by rw[z,hn] at e;cases e
 refine I.step (g':=s.gens) (d':=s.drawn) (ch:=[it]) (λb hb=> ?_) (λb o _ _ hc e _=>k b o (λz=>hc<|by simp[z]) e) (λb o _ _ hc e _=>⟨o.slots,k b o (λz=>hc<|by simp[z]) e⟩) (λ_ _ _ _ n=>n)
  (λb o hc e=>⟨o,k b o (λz=>hc<|by simp[z]) e⟩) (λ_ _ e=>e) (λ_ _ _ e=>e) (λb ps e=>⟨#[],by rw[e];simp⟩) (λm hm=> ?_) (λb u e=> ?_) I.bare
 ·have e:b=it:=by simpa using hb
  subst e;exact⟨h1,hL,h2,h3⟩
 ·obtain⟨o,es,ep,ho,r⟩:=hm;exact⟨o,es,ep,k _ o (Ne.symm hL) ho,r⟩
 ·refine(I.hok b u e).stay (λc v hc q=>k c v ?_ q) (λ_ q=>q) λ_ _ q=>q
  rcases hc with z|z
  ·rw[z];exact nit b u e
  ·exact nit c _ z
theorem Inv.tok(I:Inv X pins σ H s)(t:Nat):Inv X pins σ H {s with toks:=t}:=I.un (h':=s.heap) (t':=t) Un.refl I.hok
theorem Inv.kept{t':Nat}(I:Inv X pins σ H s)(k:∀b u,s.heap.get? b=some u->h'.get? b=some u):Inv X pins σ H {s with heap:=h',toks:=t'}:=I.un (Un.kept k)<|I.hok.kept k
theorem Inv.laid{t':Nat}(I:Inv X pins σ H s)(k:∀b u,s.heap.get? b=some u->h'.get? b=some u)(hp:s.heap.objs.size<=a)(new:ObjOk X.prog X.w (upd H a o) h' a o):
  Inv X pins σ (upd H a o) {s with heap:=h',toks:=t'}:=I.un (Un.laid k hp<|I.hok.fresh hp)<|I.hok.laid k hp new
theorem Inv.write{t':Nat}(I:Inv X pins σ H s)(mu:Mut (H x))(he:e=x\/H e=some (.own x))(k:∀b u,b≠e->s.heap.get? b=some u->h'.get? b=some u)(heo:∃u,h'.get? e=some u)
  (new:ObjOk X.prog X.w (upd H x o) h' x o):Inv X pins σ (upd H x o) {s with heap:=h',toks:=t'}:=I.un (Un.write mu he k heo)<|I.hok.write mu he k heo new
theorem Inv.pins_of{pins':List (BF×BI)}(I:Inv X pins σ H s)(h:∀p∈pins',s.heap.get? p.1=some p.2/\H p.1=none/\p.1≠X.env.locals/\p.1∉X.fs/\∀v,p.2.data≠ .cell v):Inv X pins' σ H s:=
 ⟨I.ok,I.os,I.bare,I.base,I.loc,I.cell,I.free,I.freeC,λp hp=>(aU.mp hp).elim (λz=>I.pin p<|bL _ z)<|h p,I.hok,I.len⟩
theorem vN{N:List Str}(hN:N.Nodup){i j:Nat}{x:Str}(a:N[i]? =some x)(b:N[j]? =some x):i=j:=by obtain⟨h1,e1⟩:=aD.mp a;obtain⟨h2,e2⟩:=aD.mp b;exact(jW hN).mp<|e1.trans e2.symm
theorem aEP{M:Model}{A:BG}{E:BD->BE->Prop}{i:Nat}{x:Str}{v:V}{u:BD}{Q:Unit->BE->Prop}(I:Inv X pins σ H s)(hN:X.N.Nodup)(hi:X.N[i]? =some x)(hx:Loc X.env.scope x)(r:RelV v u)
  (h:∀s',Inv X pins (σ.set i (some v)) H s'->(∃a,Heap.SameBut a s.heap s'.heap/\(a=X.env.locals\/X.env.cells.lookup x=some a))->Q () s') (hf:X.fn x=true\/X.env.scope.names.lookup x=some .local:=by first|exact .inl rfl|exact .inr rfl|assumption):AK M A (storeName X.env x u) Q E s:=by
 obtain⟨m,hn,hl⟩:=id I.loc;have hcls:(X.env.scope.kind==.class||(X.env.scope.kind==.module&&X.env.locals !=X.env.globals))=false:=by rw[I.ok.kind];rfl
 have hiσ:i<σ.length:=by rw[I.len];exact(aD.mp hi).1
 have cne:=I.cne
 have tracked:∀ {a:BF}{h':BH},(∃o,s.heap.get? a=some o/\H a=none)->Heap.SameBut a s.heap h'->HOk X.prog X.w H h':=λ{a h'} ha hs b ob e=>by
  obtain⟨_,_,hfree⟩:=ha;refine(I.hok b ob e).stay (λc w' hc q=>(hs.2 c ?_).trans q) (λ_ q=>q) λ_ _ q=>q
  rintro rfl
  rcases hc with rfl|hc
  ·rw[hfree] at e;cases e
  ·rw[hfree] at hc;cases hc
 rcases hx with hk|hk
 ·refine wpAny_storeName_local hk hn (λh' hn' hs=> ?_) hcls;obtain⟨oL,_,_,hoL,_⟩:=id hn;refine h _ ⟨I.ok,I.os,I.bare,⟨λb o e n hb hx=> ?_,λb o e n hb hx=> ?_,I.base.free,λb o e hx=> ?_,I.base.tups,I.base.frzs,I.base.tbls⟩,⟨_,hn',λj y v' e1 e2 e3=> ?_⟩,λy c e=> ?_,I.free,I.freeC,λp hp=> ?_,tracked ⟨oL,hoL,I.free⟩ hs,by simpa using I.len⟩ ⟨_,hs,.inl rfl⟩
  ·exact(hs.2 b (bQ<|aS (aP e) I.ok.above)).trans<|I.base.keep b o e n hb hx
  ·obtain⟨sl,e1⟩:=I.base.slot b o e n hb hx;exact⟨sl,(hs.2 b (bQ<|aS (aP e) I.ok.above)).trans e1⟩
  ·obtain⟨o',e1⟩:=I.base.there b o e hx;exact⟨o',(hs.2 b (bQ<|aS (aP e) I.ok.above)).trans e1⟩
  ·by_cases hj:j=i
   ·subst hj;rw[hi] at e1;cases e1;rw[gL hiσ] at e2;cases e2;exact⟨u,r,.inl ⟨hk,by simp⟩⟩
   ·rw[iE<|Ne.symm hj] at e2;obtain⟨u',r',q⟩:=hl j y v' e1 e2 e3;refine⟨u',r', ?_⟩
    rcases q with⟨k,e⟩|⟨k,c,e,z⟩
    ·refine .inl ⟨k, ?_⟩;have:y≠x:=λe=>hj (vN hN e1<|e▸hi)
     simp[this,e]
    ·exact .inr ⟨k,c,e,z.sameBut hs<|cne y c e⟩
  ·obtain⟨w',z⟩:=I.cell y c e;exact⟨w',z.sameBut hs<|cne y c e⟩
  ·obtain⟨e,n,ne,nf,d⟩:=I.pin p hp;exact⟨(hs.2 p.1 ne).trans e,n,ne,nf,d⟩
 ·have hfn:X.fn x=true:=by
   rcases hf with z|z
   ·exact z
   ·rw[z] at hk;cases hk
  obtain⟨c,hc⟩:=I.ok.has x<|.inl hk;obtain⟨w',z⟩:=I.cell x c hc;refine wpAny_storeName_cell I.ok.kind hk hc z λh' hc' hs=> ?_;obtain⟨oc,hoc,hocd⟩:=id z;refine h {s with heap:=h'} ⟨I.ok,I.os,I.bare,⟨λb o e n hb hx=> ?_,λb o e n hb hx=> ?_,I.base.free,λb o e hx=> ?_,I.base.tups,I.base.frzs,I.base.tbls⟩,⟨m,hn.sameBut hs (Ne.symm<|cne x c hc),λj y v' e1 e2 e3=> ?_⟩,λy c' e=> ?_,I.free,I.freeC,λp hp=> ?_,tracked ⟨oc,hoc,I.freeC x c hc⟩ hs,by simpa using I.len⟩ ⟨c,hs,.inr hc⟩
  ·exact(hs.2 b<|bQ (aS (aP e)<|I.ok.cab x c hfn hc)).trans<|I.base.keep b o e n hb hx
  ·obtain⟨sl,e1⟩:=I.base.slot b o e n hb hx;exact⟨sl,(hs.2 b<|bQ (aS (aP e)<|I.ok.cab x c hfn hc)).trans e1⟩
  ·obtain⟨o',e1⟩:=I.base.there b o e hx;exact⟨o',(hs.2 b<|bQ (aS (aP e)<|I.ok.cab x c hfn hc)).trans e1⟩
  ·by_cases hj:j=i
   ·subst hj;rw[hi] at e1;cases e1;rw[gL hiσ] at e2;cases e2;exact⟨u,r,.inr ⟨.inl hk,c,hc,hc'⟩⟩
   ·rw[iE<|Ne.symm hj] at e2;obtain⟨u',r',q⟩:=hl j y v' e1 e2 e3;refine⟨u',r', ?_⟩
    rcases q with q|⟨k,c',e,z'⟩
    ·exact .inl q
    ·refine .inr ⟨k,c',e,z'.sameBut hs ?_⟩;rintro rfl;exact hj (vN hN e1<|I.ok.inj _ _ _ e hc▸hi)
  ·by_cases hcc:c'=c
   ·subst hcc;exact⟨_,hc'⟩
   ·obtain⟨w2,z2⟩:=I.cell y c' e;exact⟨w2,z2.sameBut hs hcc⟩
  ·obtain⟨e,n,ne,nf,d⟩:=I.pin p hp;refine⟨(hs.2 p.1 ?_).trans e,n,ne,nf,d⟩;intro q;rw[q,hoc] at e;have q':oc=p.2:=bM.inj e;exact d w' (by rw[<-q'];exact hocd)
theorem wM{M:Model}{A:BG}{E:BD->BE->Prop}{i:Nat}{x:Str}{v:V}{u:BD}{Q:Unit->BE->Prop}(I:Inv X pins σ H s)(hN:X.N.Nodup)(hi:X.N[i]? =some x)(hx:Loc X.env.scope x)(r:RelV v u)
  (h:∀s',Inv X pins (σ.set i (some v)) H s'->Q () s') (hf:X.fn x=true\/X.env.scope.names.lookup x=some .local:=by first|exact .inl rfl|exact .inr rfl|assumption):AK M A (storeName X.env x u) Q E s:=
 aEP I hN hi hx r (λs' I' _=>h s' I') hf
theorem Inv.call'{s':BE}{ch:List BF}(I:Inv X pins σ H s)(ho:s'.os=s.os)(u:Un (frs X.stack) ch H H' s.heap s'.heap)(hok:HOk X.prog X.w H' s'.heap)(hg:AllBare s'.gens)
  (hch:∀b∈ch,(b∈X.ex\/X.s₀.heap.objs.size<=b)/\b≠X.env.locals/\(∀x c,X.env.cells.lookup x=some c->c≠b)/\∀p∈X.pn++pins,p.1≠b):Inv X pins σ H' s':=by
 obtain⟨h',g',d',t',o'⟩:=s';have e:o'=s.os:=ho;subst e;exact I.call (g':=g') (t':=t') (d':=d') u hok hg hch
noncomputable abbrev XK:=BD->Option BF->Hp->Prop
noncomputable abbrev St:=List<|Option V
noncomputable abbrev VK:=V->Hp->Prop
noncomputable abbrev TE:=St->Hp->VK->Prop
noncomputable abbrev TT:=St->Hp->(Bool->Hp->Prop)->Prop
noncomputable abbrev TA:=St->Hp->(List V->Hp->Prop)->Prop
structure sN where
 nx:St->Hp->Prop
 rt:VK
 bk:St->Hp->Prop:=λ_ _=>False
 ct:St->Hp->Prop:=λ_ _=>False
noncomputable abbrev TS:=sN->St->Hp->Prop
def EP(X:Cx)(pins:List (BF×BI))(σ:St)(Q:VK)(u:BD)(s':BE):Prop:=∃v H',Inv X pins σ H' s'/\RelV v u/\Q v H'
def TP(X:Cx)(pins:List (BF×BI))(σ:St)(Q:Bool->Hp->Prop)(b:Bool)(s':BE):Prop:=∃H',Inv X pins σ H' s'/\Q b H'
def AP(X:Cx)(pins:List (BF×BI))(σ:St)(Q:List V->Hp->Prop)(us:List BD)(s':BE):Prop:=∃vs H',Inv X pins σ H' s'/\Vals vs us/\Q vs H'
def SP(X:Cx)(pins:List (BF×BI))(D:sN)(f:Flow)(s':BE):Prop:=
 match f with
 |.next=>∃σ' H',Inv X pins σ' H' s'/\D.nx σ' H'
 |.brk=>∃σ' H',Inv X pins σ' H' s'/\D.bk σ' H'
 |.cont=>∃σ' H',Inv X pins σ' H' s'/\D.ct σ' H'
 |.ret u=>∃v σ' H',Inv X pins σ' H' s'/\RelV v u/\D.rt v H'
def PE(X:Cx)(e:Expr)(t:TE):Prop:=
 ∀ (pins:List (BF×BI)) (s:BE) (σ:St) (H:Hp) (Q:VK),Inv X pins σ H s->t σ H Q->AK (AG X.prog X.w) X.A (eval e X.env) (EP X pins σ Q) X.xe s
def PT(X:Cx)(e:Expr)(t:TT):Prop:=
 ∀ (pins:List (BF×BI)) (s:BE) (σ:St) (H:Hp) (Q:Bool->Hp->Prop),Inv X pins σ H s->t σ H Q->AK (AG X.prog X.w) X.A (isTrue e X.env<|eval e X.env) (TP X pins σ Q) X.xe s
def PW(X:Cx)(e:Expr)(t:TT):Prop:=
 ∀ (whole:Sem BD) (pins:List (BF×BI)) (s:BE) (σ:St) (H:Hp) (Q:Bool->Hp->Prop),Inv X pins σ H s->t σ H Q->AK (AG X.prog X.w) X.A (isTrue e X.env whole) (TP X pins σ Q) X.xe s
theorem PW.pt{e:Expr}{t:TT}(h:PW X e t):PT X e t:=h _
def PA(X:Cx)(es:List Expr)(t:TA):Prop:=
 ∀ (pos:Pos) (pins:List (BF×BI)) (s:BE) (σ:St) (H:Hp) (Q:List V->Hp->Prop),Inv X pins σ H s->t σ H Q->AK (AG X.prog X.w) X.A (spliced (Aa pos<|AB es X.env)) (AP X pins σ Q) X.xe s
def PS(X:Cx)(st:BJ)(t:TS):Prop:=
 ∀ (pins:List (BF×BI)) (s:BE) (σ:St) (H:Hp) (D:sN),Inv X pins σ H s->t D σ H->AK (AG X.prog X.w) X.A (exec st X.env) (SP X pins D) X.xe s
def PSs(X:Cx)(st:List BJ)(t:TS):Prop:=
 ∀ (pins:List (BF×BI)) (s:BE) (σ:St) (H:Hp) (D:sN),Inv X pins σ H s->t D σ H->AK (AG X.prog X.w) X.A (execs st X.env) (SP X pins D) X.xe s
theorem thn{α:Type}{t:Sem α}{Q Q':α->BE->Prop}{M:Model}{A:BG}{E:BD->BE->Prop}(h:AK M A t Q E s)(hQ:∀a s,Q a s->Q' a s):AK M A t Q' E s:=AX h hQ λ_ _ x=>x
noncomputable def iI(i:Nat):TE:=λσ H Q=>∃v,σ[i]? =some (some v)/\Q v H
noncomputable def tC(v:V):TE:=λ_ H Q=>Q v H
theorem aNA{i:Nat}{x:Str}{pos:Pos}(hN:X.N[i]? =some x)(hv:Vis X.env.scope x)(hd:(x==("__debug__":Str))=false:=by decide)(hcd:(x==("__classdict__":Str))=false:=by decide):PE X (.Name x pos) (iI i):=by
 intro pins s σ H Q I h;obtain⟨v,e,h⟩:=h;obtain⟨m,hn,hl⟩:=I.loc;obtain⟨u,r,l⟩:=hl i x v hN e hv;have fin:EP X pins σ Q u s:=⟨v,H,I,r,h⟩
 rcases l with⟨hk,hm⟩|⟨hk,c,hc,hcell⟩
 ·exact wpAny_Name (wpAny_loadName_local I.ok.kind hk hn hm fin) hd
 ·rcases hk with hk|hk
  ·exact wpAny_Name (wpAny_loadName_cell I.ok.kind hk hc hcell fin) hd
  ·exact wpAny_Name (wpAny_loadName_free I.ok.kind hk hc hcell fin hcd) hd
theorem pe_int{i j pos}:PE X (.Constant (.int i) j pos) (tC<|.int i):=λ_ _ _ H _ I h=>wpAny_Constant_int ⟨.int i,H,I.tok _,⟨_,rfl⟩,h⟩
theorem pe_bl{b j pos}:PE X (.Constant (.bool b) j pos) (tC<|.bl b):=λ_ _ _ H _ I h=>Constant_bool ⟨.bl b,H,I,rfl,h⟩
theorem pe_non{j pos}:PE X (.Constant .none j pos) (tC .non):=λ_ _ _ H _ I h=>Constant_none ⟨.non,H,I,rfl,h⟩
theorem pe_str{x j pos}:PE X (.Constant (.str x) j pos) (tC<|.str x):=λ_ _ _ H _ I h=>Calls.Constant_str ⟨.str x,H,I.tok _,⟨_,rfl⟩,h⟩
def Gl(X:Cx)(x:Str):Prop:=X.env.kindOf x=some .globalImplicit
theorem kN{E:BD->BE->Prop}{σ:St}{x:Str}{u:BD}{pos:Pos}{Q:BD->BE->Prop}(I:Inv X pins σ H s)(hg:Gl X x)(hm:X.mg x=some u)(h:Q u s)
  (hd:(x==("__debug__":Str))=false:=by decide):AK (AG X.prog X.w) X.A (eval (.Name x pos) X.env) Q E s:=
 Calls.Name_function_global I.ok.kind hg (Calls.loadGlobal_global (by rw[I.ok.glob];exact I.mod.glob.keeps I.bk) hm h) hd
theorem lW{E:BD->BE->Prop}{σ:St}{x:Str}{u:BD}{pos:Pos}{Q:BD->BE->Prop}(I:Inv X pins σ H s)(hg:Gl X x)(hm:X.mg x=none)(hv:Ai x=some u)(h:Q u s)
  (hn:x≠"__name__":=by decide) (hd:(x==("__debug__":Str))=false:=by decide):AK (AG X.prog X.w) X.A (eval (.Name x pos) X.env) Q E s:=by
 obtain⟨mb,h1,h2⟩:=I.mod.blt;exact Calls.Name_function_global I.ok.kind hg (Calls.loadGlobal_builtin (by rw[I.ok.glob];exact I.mod.glob.keeps I.bk) hm (by rw[I.ok.blt];exact h1.keeps I.bk) ((h2 x hn).trans hv) h) hd
theorem aAo{x:Str}{v:V}{u:BD}{pos:Pos}(hg:Gl X x)(hm:X.mg x=some u)(r:RelV v u)(hd:(x==("__debug__":Str))=false:=by decide):PE X (.Name x pos) (tC v):=
 λ_ _ _ H _ I h=>kN I hg hm ⟨v,H,I,r,h⟩ hd
theorem aJp{x:Str}{v:V}{u:BD}{pos:Pos}(hg:Gl X x)(hm:X.mg x=none)(hv:Ai x=some u)(r:RelV v u)(hn:x≠"__name__":=by decide)(hd:(x==("__debug__":Str))=false:=by decide):PE X (.Name x pos) (tC v):=
 λ_ _ _ H _ I h=>lW I hg hm hv ⟨v,H,I,r,h⟩ hn hd
def t2I(ta tb:TE)(k:Int->Int->Hp->Prop):St->Hp->Prop:=λσ H=>ta σ H λx H1=>tb σ H1 λy H2=>∃i j,x=.int i/\y=.int j/\k i j H2
variable {a b:Expr}{ta tb:TE}{pos:Pos}
def PC(X:Cx)(op:CmpOp)(a b:Expr)(t:TE):Prop:=
 ∀ (pins:List (BF×BI)) (s:BE) (σ:St) (H:Hp) (Q:VK),Inv X pins σ H s->t σ H Q->
  AK (AG X.prog X.w) X.A (eval a X.env) (λv s₁=>AK (AG X.prog X.w) X.A (eval b X.env) (λu s₂=>AK (AG X.prog X.w) X.A (AW op v u) (EP X pins σ Q) X.xe s₂) X.xe s₁) X.xe s
noncomputable def aLb(p:Int->Int->Bool)(ta tb:TE):TE:=λσ H Q=>t2I ta tb (λi j H2=>Q (.bl<|p i j) H2) σ H
noncomputable abbrev tLt:TE->TE->TE:=aLb λi j=>decide<|i<j
noncomputable abbrev tLe:TE->TE->TE:=aLb λi j=>decide<|i<=j
noncomputable abbrev tGt:TE->TE->TE:=aLb λi j=>decide<|j<i
noncomputable abbrev tGe:TE->TE->TE:=aLb λi j=>decide<|j<=i
noncomputable abbrev tEqI:TE->TE->TE:=aLb λi j=>decide<|i=j
noncomputable abbrev tNeI:TE->TE->TE:=aLb λi j=> !decide (i=j)
noncomputable def tB(t:TE):TT:=λσ H Q=>t σ H λx H1=>∃c,x=.bl c/\Q c H1
theorem aMw{op:CmpOp}{t:TE}(h:PC X op a b t)(h1:AU op b=false:=by first|exact nobehind _ (by decide) (by decide)|rfl):PT X (.Compare a [op] [b] pos) (tB t):=by intro pins s σ H Q I hw;refine wpAny_isTrue_Compare1 (thn (h pins s σ H _ I hw) λv s1 h1=>thn h1 λu s2 h2=>thn h2 λc s3 ⟨x,H1,I1,r1,q1⟩=> ?_) h1;obtain⟨d,rfl,q⟩:=q1;cases r1;exact Ax ⟨H1,I1,q⟩
theorem aMj{e:Expr}{t:TE}(h:PE X e t)(he:∀whole,isTrue e X.env whole=(do let v <-whole;standAt e.pos;holding [v] (truthy v)):=by intro _;rfl):PT X e (tB t):=by intro pins s σ H Q I hw;refine isTrue_plain (thn (h pins s σ H _ I hw) λv s1 ⟨x,H1,I1,r1,q1⟩=> ?_)<|he _;obtain⟨d,rfl,q⟩:=q1;cases r1;exact Ax ⟨H1,I1,q⟩
variable {tA tB':TT}{rest:List Expr}
noncomputable def tAnd(t u:TT):TT:=λσ H Q=>t σ H λc H1=>if c=true then u σ H1 Q else Q false H1
noncomputable def tOr(t u:TT):TT:=λσ H Q=>t σ H λc H1=>if c=true then Q true H1 else u σ H1 Q
noncomputable def tNot(t:TT):TT:=λσ H Q=>t σ H λc H1=>Q (!c) H1
theorem aJq(ha:PT X a tA):PW X (.BoolOp .And [a] pos) tA:=by
 intro wh pins s σ H Q I h;refine isTrue_and<|thn (ha pins s σ H Q I h) λc s1 e=> ?_;cases c with
 |true=>exact isTrue_and_nil e
 |false=>exact e
theorem aNq(ha:PT X a tA):PW X (.BoolOp .Or [a] pos) tA:=by
 intro wh pins s σ H Q I h;refine isTrue_or<|thn (ha pins s σ H Q I h) λc s1 e=> ?_;cases c with
 |false=>exact isTrue_or_nil e
 |true=>exact e
theorem aMG(ha:PT X a tA)(hb:PW X (.BoolOp .And (b::rest) pos) tB'):PW X (.BoolOp .And (a::b::rest) pos) (tAnd tA tB'):=by
 intro wh pins s σ H Q I h;refine isTrue_and<|thn (ha pins s σ H _ I h) λc s1 ⟨H1,I1,q1⟩=> ?_;cases c with
 |true=>exact hb wh pins s1 σ H1 Q I1 q1
 |false=>exact⟨H1,I1,q1⟩
theorem aOt(ha:PT X a tA)(hb:PW X (.BoolOp .Or (b::rest) pos) tB'):PW X (.BoolOp .Or (a::b::rest) pos) (tOr tA tB'):=by
 intro wh pins s σ H Q I h;refine isTrue_or<|thn (ha pins s σ H _ I h) λc s1 ⟨H1,I1,q1⟩=> ?_;cases c with
 |true=>exact⟨H1,I1,q1⟩
 |false=>exact hb wh pins s1 σ H1 Q I1 q1
theorem aMN(ha:PT X a tA):PT X (.UnaryOp .Not a pos) (tNot tA):=by intro pins s σ H Q I h;exact isTrue_not<|ha pins s σ H (λc H1=>Q (!c) H1) I h
noncomputable def aOw(ta tb:TE):TE:=λσ H Q=>ta σ H λx H1=>∃c,x=.bl c/\if c=true then tb σ H1 Q else Q (.bl false) H1
theorem aMM{op}{t:TE}(h:PE X a t):PE X (.BoolOp op [a] pos) t:=λpins s σ H Q I hw=>BoolOp_one<|h pins s σ H Q I hw
theorem aMQ(ha:PE X a ta)(hb:PE X (.BoolOp .And (b::rest) pos) tb):PE X (.BoolOp .And (a::b::rest) pos) (aOw ta tb):=by
 intro pins s σ H Q I h;refine BoolOp_and<|thn (ha pins s σ H _ I h) λv s1 ⟨x,H1,I1,r1,q1⟩=> ?_;obtain⟨c,rfl,q1⟩:=q1;cases r1;refine Ax ?_;cases c with
 |true=>exact hb pins s1 σ H1 Q I1 q1
 |false=>exact⟨.bl false,H1,I1,rfl,q1⟩
noncomputable def tIf(t:TT)(ta tb:TE):TE:=λσ H Q=>t σ H λc H1=>if c=true then ta σ H1 Q else tb σ H1 Q
theorem aHa{c:Expr}(hc:PT X c tA)(ha:PE X a ta)(hb:PE X b tb):PE X (.IfExp c a b pos) (tIf tA ta tb):=by
 intro pins s σ H Q I h;refine wpAny_IfExp<|thn (hc pins s σ H _ I h) λd s1 ⟨H1,I1,q1⟩=> ?_;cases d with
 |true=>exact ha pins s1 σ H1 Q I1 q1
 |false=>exact hb pins s1 σ H1 Q I1 q1
def SqL(K:aA)(H:Hp)(a:BF)(xs:List V):Prop:=
 Rd H a (.lst xs)\/
  ∃ (o:BI) (its:Array BD) (n:Nat),K.lookup a=some o/\o.cls=.type "list"/\o.dict=none/\o.data=.seq its n/\its.size<=AM/\Vals xs its.toList
def SqT(K:aA)(H:Hp)(a:BF)(xs:List V):Prop:=
 Rd H a (.tup xs)\/
  ∃ (o:BI) (its:Array BD) (n:Nat),K.lookup a=some o/\o.cls=.type "tuple"/\o.data=.seq its n/\its.size<=AM/\Vals xs its.toList
noncomputable def absV:BD->Option V
 |.none=>some .non
 |.bool b=>some<|.bl b
 |.int i _=>some<|.int i
 |.str x _=>some<|.str x
 |.bytes b _=>some<|.byt b
 |.float b _=>some<|.flt b
 |.ref a=>some<|.ref a
 |.type n=>some<|.ty n
 |_=>none
theorem RelV.abs{x:V}{u:BD}(r:RelV x u):absV u=some x:=by
 cases x with
 |non=>cases r;rfl
 |bl _=>cases r;rfl
 |int _=>obtain⟨t,rfl⟩:=r;rfl
 |str _=>obtain⟨t,rfl⟩:=r;rfl
 |byt _=>obtain⟨t,rfl⟩:=r;rfl
 |flt _=>obtain⟨t,rfl⟩:=r;rfl
 |ref _=>cases r;rfl
 |ty _=>cases r;rfl
theorem RelV.inj{x y:V}{u:BD}(r:RelV x u)(q:RelV y u):x=y:=bM.inj<|r.abs.symm.trans q.abs
theorem Vals.inj:∀ {xs ys:List V}{us:List BD},Vals xs us->Vals ys us->xs=ys
 |_,_,_,.nil,.nil=>rfl
 |_,_,_,.cons r t,.cons r' t'=>by rw[r.inj r',Vals.inj t t']
variable {σ:St}{a:BF}{xs ys:List V}
theorem SqL.of{K:aA}(h:H a=some (.lst xs)):SqL K H a xs:=.inl<|.inl h
theorem SqT.of{K:aA}(h:H a=some (.tup xs)):SqT K H a xs:=.inl<|.inl h
theorem Inv.list(I:Inv X pins σ H s)(h:SqL X.K H a xs):∃its:List BD,Vals xs its/\PlainL s.heap a its.toArray/\xs.length<=AM:=by
 rcases h with h|⟨o,its,n,hk,hc,hd,hs,hz,r⟩
 ·obtain⟨z,its,n,r,e⟩:=h.ok I.hok;exact⟨its,r,⟨_,n,e,rfl,rfl,rfl⟩,z⟩
 ·refine⟨its.toList,r,⟨o,n,I.kIn a o hk,hc,hd,by simpa using hs⟩, ?_⟩;have e:=r.length;simp only[cO] at e;omega
theorem Inv.tuple(I:Inv X pins σ H s)(h:SqT X.K H a xs):∃its:List BD,Vals xs its/\IsTup s.heap a its.toArray/\xs.length<=AM:=by
 rcases h with h|⟨o,its,n,hk,hc,hs,hz,r⟩
 ·obtain⟨z,its,r,p⟩:=h.ok I.hok;exact⟨its,r,p.tup,z⟩
 ·refine⟨its.toList,r,⟨o,I.kIn a o hk,hc,n,by simpa using hs⟩, ?_⟩;have e:=r.length;simp only[cO] at e;omega
theorem Inv.list_inj(I:Inv X pins σ H s)(h:SqL X.K H a xs)(h':SqL X.K H a ys):xs=ys:=by
 obtain⟨its,r,⟨o,n,e,_,_,d⟩,_⟩:=I.list h;obtain⟨its',r',⟨o',n',e',_,_,d'⟩,_⟩:=I.list h';rw[e] at e';cases e';rw[d] at d';injection d' with d1 _
 have:its=its':=by simpa using congrArg aNU d1
 subst this;exact r.inj r'
theorem Inv.tuple_inj(I:Inv X pins σ H s)(h:SqT X.K H a xs)(h':SqT X.K H a ys):xs=ys:=by
 obtain⟨its,r,⟨o,e,_,n,d⟩,_⟩:=I.tuple h;obtain⟨its',r',⟨o',e',_,n',d'⟩,_⟩:=I.tuple h';rw[e] at e';cases e';rw[d] at d';injection d' with d1 _
 have:its=its':=by simpa using congrArg aNU d1
 subst this;exact r.inj r'
noncomputable abbrev Cx.wish(X:Cx)(E:BD->BE->Prop):Cx:={X with xe:=E}
noncomputable abbrev Cx.nox(X:Cx):Cx:=X.wish λ_ _=>False
theorem Cx.Ok.wish(ok:X.Ok)(E:BD->BE->Prop):(X.wish E).Ok:=
 ⟨ok.mod,ok.kind,ok.glob,ok.blt,ok.above,ok.inj,ok.has,ok.cab,ok.hd,ok.frames,ok.stk,ok.exf,ok.bs,ok.bsz,ok.noex,ok.exfs,ok.funs,ok.frf⟩
theorem Cx.Ok.unwish{E:BD->BE->Prop}(ok:(X.wish E).Ok):X.Ok:=
 ⟨ok.mod,ok.kind,ok.glob,ok.blt,ok.above,ok.inj,ok.has,ok.cab,ok.hd,ok.frames,ok.stk,ok.exf,ok.bs,ok.bsz,ok.noex,ok.exfs,ok.funs,ok.frf⟩
variable {E:BD->BE->Prop}
theorem Inv.wish(I:Inv X pins σ H s)(E:BD->BE->Prop):Inv (X.wish E) pins σ H s:=⟨I.ok.wish E,I.os,I.bare,I.base,I.loc,I.cell,I.free,I.freeC,I.pin,I.hok,I.len⟩
theorem Inv.unwish(I:Inv (X.wish E) pins σ H s):Inv X pins σ H s:=⟨I.ok.unwish,I.os,I.bare,I.base,I.loc,I.cell,I.free,I.freeC,I.pin,I.hok,I.len⟩
theorem SP.unwish{D:sN}{f:Flow}{s':BE}(h:SP (X.wish E) pins D f s'):SP X pins D f s':=by
 cases f with
 |next=>obtain⟨σ',H',I,q⟩:=h;exact⟨σ',H',I.unwish,q⟩
 |brk=>obtain⟨σ',H',I,q⟩:=h;exact⟨σ',H',I.unwish,q⟩
 |cont=>obtain⟨σ',H',I,q⟩:=h;exact⟨σ',H',I.unwish,q⟩
 |ret u=>obtain⟨v,σ',H',I,r,q⟩:=h;exact⟨v,σ',H',I.unwish,r,q⟩
theorem PSs.nox{st:List BJ}{t:TS}(h:PSs X.nox st t):PSs X st t:=λpins s σ H D I hw=>AX (h pins s σ H D (I.wish _) hw) (λ_ _ q=>q.unwish) λ_ _ z=>False.elim z
variable {st:BJ}{rest:List BJ}{t u:TS}{e:Expr}{te:TE}
noncomputable def aOQ:TS:=λD σ H=>D.nx σ H
noncomputable def tSeq(t u:TS):TS:=λD σ H=>t {D with nx:=u D} σ H
theorem pss_nil:PSs X [] aOQ:=λ_ _ σ H _ I h=>wpAny_execs_nil ⟨σ,H,I,h⟩
theorem wD(h1:PS X st t)(h2:PSs X rest u):PSs X (st::rest) (tSeq t u):=by
 intro pins s σ H D I h;refine wpAny_execs_cons<|thn (h1 pins s σ H {D with nx:=u D} I h) λf s1 q=> ?_;cases f with
 |next=>obtain⟨σ',H',I',q⟩:=q;exact h2 pins s1 σ' H' D I' q
 |ret v=>exact q
 |brk=>exact q
 |cont=>exact q
theorem aDD(h1:PS X st t):PSs X [st] t:=by
 intro pins s σ H D I h;refine wpAny_execs_cons<|thn (h1 pins s σ H D I h) λf s1 q=> ?_;cases f with
 |next=>exact wpAny_execs_nil q
 |ret v=>exact q
 |brk=>exact q
 |cont=>exact q
theorem Inv.quiet(I:Inv X pins σ H s):interactive X.env=false:=by simp[interactive,I.ok.kind]
noncomputable def aOM(te:TE):TS:=λD σ H=>te σ H λ_ H1=>D.nx σ H1
theorem oR(he:PE X e te)(hs:AY e none pos.line X.env=pure false:=by rfl):PS X (.Expr e pos) (aOM te):=by intro pins s σ H D I h;exact wpAny_Expr_any (thn (he pins s σ H _ I h) λv s1 ⟨x,H1,I1,r1,q1⟩=>⟨σ,H1,I1,q1⟩) I.quiet hs
noncomputable def tRet(te:TE):TS:=λD σ H=>te σ H D.rt
theorem rW(he:PE X e te):PS X (.Return (some e) pos) (tRet te):=by intro pins s σ H D I h;exact wpAny_Return_some<|thn (he pins s σ H _ I h) λv s1 ⟨x,H1,I1,r1,q1⟩=>⟨x,σ,H1,I1,r1,q1⟩
noncomputable def tIfS(c:TT)(t u:TS):TS:=λD σ H=>c σ H λb H1=>if b=true then t D σ H1 else u D σ H1
theorem aOP{c:Expr}{a b:List BJ}{tc:TT}(hc:PT X c tc)(ha:PSs X a t)(hb:PSs X b u):PS X (.If c a b pos) (tIfS tc t u):=by
 intro pins s σ H D I h;refine wpAny_If<|thn (hc pins s σ H _ I h) λd s1 ⟨H1,I1,q1⟩=> ?_;cases d with
 |true=>exact ha pins s1 σ H1 D I1 q1
 |false=>exact hb pins s1 σ H1 D I1 q1
noncomputable abbrev TG:=V->St->Hp->(St->Hp->Prop)->Prop
noncomputable abbrev TGs:=List V->St->Hp->(St->Hp->Prop)->Prop
def PG(X:Cx)(target:Expr)(t:TG):Prop:=
 ∀ (pins:List (BF×BI)) (s:BE) (σ:St) (H:Hp) (v:V) (u:BD) (Q:St->Hp->Prop),Inv X pins σ H s->RelV v u->t v σ H Q->
  AK (AG X.prog X.w) X.A (assign target X.env u) (λ_ s'=>∃σ' H',Inv X pins σ' H' s'/\Q σ' H') X.xe s
def PGs(X:Cx)(ts:List Expr)(t:TGs):Prop:=
 ∀ (pins:List (BF×BI)) (s:BE) (σ:St) (H:Hp) (vs:List V) (us:List BD) (Q:St->Hp->Prop),Inv X pins σ H s->Vals vs us->t vs σ H Q->
  AK (AG X.prog X.w) X.A (assignInOrder ((BA ts X.env).map (·.2)) us) (λ_ s'=>∃σ' H',Inv X pins σ' H' s'/\Q σ' H') X.xe s
noncomputable abbrev TSet:=V->V->V->Hp->(Hp->Prop)->Prop
noncomputable abbrev TIp:=V->V->Hp->VK->Prop
noncomputable def aCJ(i:Nat):TG:=λv σ H Q=>Q (σ.set i (some v)) H
theorem qI{i:Nat}{x:Str}(hN:X.N.Nodup)(hi:X.N[i]? =some x)(hx:Loc X.env.scope x)(hf:X.fn x=true\/X.env.scope.names.lookup x=some .local:=by first|exact .inl rfl|exact .inr rfl|assumption):PG X (.Name x pos) (aCJ i):=by intro pins s σ H v u Q I r h;exact wpAny_assign_Name<|wM I hN hi hx r (λs' I'=>⟨_,H,I',h⟩) hf
noncomputable def aPq:TGs:=λvs σ H Q=>vs=[]/\Q σ H
noncomputable def aMb(t:TG)(u:TGs):TGs:=λvs σ H Q=>∃v r,vs=v::r/\t v σ H λσ' H'=>u r σ' H' Q
theorem lG:PGs X [] aPq:=by intro pins s σ H vs us Q I r h;obtain⟨e,h⟩:=h;subst e;cases r;exact assignInOrder_nil ⟨σ,H,I,h⟩
theorem eZ{es:List Expr}{t:TG}{u:TGs}(h1:PG X e t)(h2:PGs X es u)
  (hs:(BA (e::es) X.env).map (·.2)=assign e X.env::(BA es X.env).map (·.2):=by rfl):PGs X (e::es) (aMb t u):=by
 intro pins s σ H vs us Q I r h;obtain⟨v,vr,e1,h⟩:=h;subst e1;cases r with
 |cons r rr=>rw[hs];refine assignInOrder_cons<|thn (h1 pins s σ H _ _ _ I r h) λ_ s1 ⟨σ1,H1,I1,q1⟩=> ?_;exact h2 pins s1 σ1 H1 _ _ Q I1 rr q1
noncomputable def gTup(K:aA)(n:Nat)(t:TGs):TG:=λv σ H Q=>∃a xs,v=.ref a/\SqT K H a xs/\xs.length=n/\t xs σ H Q
theorem aMh{es:List Expr}{k:Nat}{t:TGs}{n:Nat}(hc:X.calm=true)(h:PGs X es t)
  (hn:(BA es X.env).length=n:=by rfl) (hst:(BA es X.env).findIdx? (·.1)=none:=by rfl):PG X (.Tuple es k pos) (gTup X.K n t):=by
 intro pins s σ H v u Q I r hw;obtain⟨a,xs,e1,hq,hl,hw⟩:=hw;subst e1;cases r;obtain⟨its,rv,ht,hz⟩:=I.tuple hq;refine assign_Tuple_tuple (I.ok.hd hc) ht (by simp[hn,<-hl,rv.length]) hst λh' hx=> ?_
 have I1:Inv X pins σ H {s with heap:=h'}:=I.kept (t':=s.toks) λb o e=>hx b o (bQ<|aP e) e
 exact h pins _ σ H xs _ Q I1 (by simpa using rv) hw
noncomputable def aPx(te:TE)(g:TG):TS:=λD σ H=>te σ H λx H1=>g x σ H1 D.nx
theorem aMk{tg:Expr}{g:TG}(he:PE X e te)(hg:PG X tg g)(hs:swapsWithSole [tg] e pos.line X.env=pure false:=by rfl)(hw:swappedStores [tg] e X.env=pure none:=by rfl)
  (h1:(BA [tg] X.env).map (·.2)=[assign tg X.env]:=by rfl):PS X (.Assign [tg] e pos) (aPx te g):=by
 intro pins s σ H D I h;refine wpAny_Assign_stores (thn (he pins s σ H _ I h) λv s1 ⟨x,H1,I1,r1,q1⟩=> ?_) hs hw;rw[h1];exact thn (hg pins s1 σ H1 x v _ I1 r1 q1) λ_ s2 q=>q
theorem pN{i:Nat}{x:Str}{pos':Pos}(hN:X.N.Nodup)(hi:X.N[i]? =some x)(hx:Loc X.env.scope x)(he:PE X e te)(hs:AY e (some<|.Name x pos') pos.line X.env=pure false:=by rfl)(hf:X.fn x=true\/X.env.scope.names.lookup x=some .local:=by first|exact .inl rfl|exact .inr rfl|assumption):
  PS X (.Assign [.Name x pos'] e pos) (aPx te<|aCJ i):=by
 intro pins s σ H D I h;refine wpAny_Assign_Name (thn (he pins s σ H _ I h) λv s1 ⟨y,H1,I1,r1,q1⟩=> ?_) hs;exact wM I1 hN hi hx r1 (λs2 I2=>⟨_,H1,I2,q1⟩) hf
noncomputable def aMO(c:TT)(tb:TS):TS:=λD σ H=>∃W:Nat->St->Hp->Prop,(∃m,W m σ H)/\∀m σ H,W m σ H->
 c σ H λb H1=>if b=true then ∃N:St->Hp->Prop,(∀σ' H',N σ' H'->∃m',m'<m/\W m' σ' H')/\tb {D with nx:=N,ct:=N,bk:=D.nx} σ H1 else D.nx σ H1
theorem aGS{c:Expr}{body:List BJ}{tc:TT}{tb:TS}(hp:PassesOwn (AG X.prog X.w) X.A X.env X.xe)(hc:PT X c tc)(hb:PSs X body tb):PS X (.While c body [] pos) (aMO tc tb):=by
 intro pins s σ H D I h;obtain⟨W,⟨m0,w0⟩,turn⟩:=h;refine wpAny_While<|codeAny_whileLoop (λn s'=>∃σ' H',Inv X pins σ' H' s'/\W n σ' H') ?_ m0 ⟨σ,H,I,w0⟩;rintro n s1 ⟨σ1,H1,I1,w1⟩;refine Ap hp<|thn (hc pins s1 σ1 H1 _ I1<|turn n σ1 H1 w1) λb s2 ⟨H2,I2,q2⟩=> ?_;cases b with
 |true=>
  obtain⟨N,hN,q2⟩:=q2;rw[if_pos rfl];refine Ap hp<|thn (hb pins s2 σ1 H2 _ I2 q2) λf s3 q3=> ?_;cases f with
  |next=>obtain⟨σ3,H3,I3,n3⟩:=q3;obtain⟨m',hm,w3⟩:=hN σ3 H3 n3;exact⟨m',hm,σ3,H3,I3,w3⟩
  |cont=>obtain⟨σ3,H3,I3,n3⟩:=q3;obtain⟨m',hm,w3⟩:=hN σ3 H3 n3;exact⟨m',hm,σ3,H3,I3,w3⟩
  |brk=>exact q3
  |ret v=>exact q3
 |false=>rw[if_neg bH];exact wpAny_execs_nil ⟨σ1,H2,I2,q2⟩
structure It where
 go:Nat->Hp->Prop
 yld:Nat->Hp->V->Hp->Prop
 stop:Nat->Hp->Prop
def uL(X:Cx)(pins:List (BF×BI))(H:Hp)(b:BF):Prop:=
 H b=none/\b≠X.env.locals/\b∉X.fs/\(b∈X.ex\/X.s₀.heap.objs.size<=b)/\(∀x c,X.env.cells.lookup x=some c->c≠b)/\∀p∈X.pn++pins,p.1≠b
theorem Inv.fpOk{b:BF}(I:Inv X pins σ H s)(hb:s.heap.objs.size<=b)(hn:H' b=none):uL X pins H' b:=by
 refine⟨hn,jR<|aS I.lt hb,I.nofs hb,.inr<|cD I.sz hb,λx c e z=> ?_,λp hp z=> ?_⟩
 ·obtain⟨v,q⟩:=I.cell x c e;exact absurd (aS q.lt<|by rw[z];exact hb)<|eD _
 ·exact absurd (aS (aP (I.pin p hp).1)<|by rw[z];exact hb)<|eD _
structure aIG(P:AE)(w:AL)(K:aA)(tg:Expr)(J:It)(fp:List BF)(it:BF)(tn:Nat->BH->Prop):Prop where
 mem:it∈fp
 obj:∀i h,tn i h->∀b∈fp,∃o,h.get? b=some o/\∀v,o.data≠ .cell v
 keep:∀i h h',tn i h->(∀b∈fp,∀o,h.get? b=some o->h'.get? b=some o)->tn i h'
 item:∀ (X:Cx),X.prog=P->X.w=w->X.K=K->X.calm=true->∀ (i:Nat) (pins:List (BF×BI)) (s:BE) (σ:St) (H:Hp) (E:BD->BE->Prop),Inv X pins σ H s->(∀b∈fp,uL X pins H b)->tn i s.heap->J.go i H->
  AK (AG P w) X.A (pyNext (.ref it)) (fun r s1=>∃u,r=some u∧
   AK (AG P w) X.A (letOwnedTupleGo tg (.ref it) u) (λ_ s2=>∃x H',Inv X pins σ H' s2/\RelV x u/\J.yld i H x H'/\tn (i+1) s2.heap/\∀b∈fp,H' b=none) E s1) E s
 done:∀ (X:Cx),X.prog=P->X.w=w->X.K=K->X.calm=true->∀ (i:Nat) (pins:List (BF×BI)) (s:BE) (σ:St) (H:Hp) (E:BD->BE->Prop),Inv X pins σ H s->(∀b∈fp,uL X pins H b)->tn i s.heap->J.stop i H->
  AK (AG P w) X.A (pyNext<|.ref it) (λr s1=>r=none/\Inv X pins σ H s1) E s
 self:∀ (A:BG) (i:Nat) (s:BE) (Q:BD->BE->Prop) (E:BD->BE->Prop),tn i s.heap->Q (.ref it) s->AK (AG P w) A (pyIter<|.ref it) Q E s
noncomputable abbrev TI:=St->Hp->(It->Hp->Prop)->Prop
def PIE(X:Cx)(pins:List (BF×BI))(σ:St)(tg:Expr)(R:It->Hp->Prop)(itv:BD)(s2:BE):Prop:=
 ∃ (it:BF) (fp:List BF) (tn:Nat->BH->Prop) (J:It) (H':Hp),itv=.ref it/\Inv X pins σ H' s2/\aIG X.prog X.w X.K tg J fp it tn/\tn 0 s2.heap/\(∀b∈fp,uL X pins H' b)/\R J H'
def PI(X:Cx)(tg iter:Expr)(wi:TI):Prop:=
 ∀ (pins:List (BF×BI)) (s:BE) (σ:St) (H:Hp) (R:It->Hp->Prop),Inv X pins σ H s->wi σ H R->
  AK (AG X.prog X.w) X.A (eval iter X.env) (λv s1=>AK (AG X.prog X.w) X.A (pyIter v) (PIE X pins σ tg R) X.xe s1) X.xe s
theorem aIO{M:Model}{A:BG}{tg:Expr}{it:BF}{u:BD}{o:BI}{n:String}{vs:Array BD}{Q:Unit->BE->Prop}(ho:s.heap.get? it=some o)(hc:o.cls=.type n)(hd:o.data=.fields vs)
  (hn:["enumerate","zip","dict_itemiterator","dict_reverseitemiterator","odict_iterator","itertools.zip_longest","itertools.pairwise"].contains n=false) (hQ:Q () s):AK M A (letOwnedTupleGo tg (.ref it) u) Q E s:=by
 unfold letOwnedTupleGo
 cases tg<;>first
  |exact AC hQ
  | (cases u<;>first
    |exact AC hQ
    | (refine AA (wpAny_load ho ?_)
       rw[hc,hd];show AK M A (if(["enumerate","zip","dict_itemiterator","dict_reverseitemiterator","odict_iterator","itertools.zip_longest","itertools.pairwise"].contains n&&vs[0]? ==some (rawInt _))=true then _ else _) Q E s;rw[if_neg<|by intro h;rw[hn,zA] at h;cases h]
       exact AC hQ))
noncomputable def Itl(K:aA)(a:BF):It:=
 ⟨λi H=>∃xs x,SqL K H a xs/\xs[i]? =some x,λi H x H'=>H'=H/\∀xs,SqL K H a xs->xs[i]? =some x,λi H=>∃xs,SqL K H a xs/\xs.length<=i⟩
noncomputable def Itt(K:aA)(a:BF):It:=
 ⟨λi H=>∃xs x,SqT K H a xs/\xs[i]? =some x,λi H x H'=>H'=H/\∀xs,SqT K H a xs->xs[i]? =some x,λi H=>∃xs,SqT K H a xs/\xs.length<=i⟩
noncomputable def Itr(lo:Int)(n:Nat):It:=⟨λi _=>i<n,λi H x H'=>H'=H/\x=.int (lo+i),λi _=>n<=i⟩
theorem aEI{K:aA}{tg:Expr}(a it:BF):aIG P w K tg (Itl K a) [it] it (λi h=>h.IsListIter it a i) where
 mem:=by simp
 obj:=λi h st b hb=>by
  have e:b=it:=by simpa using hb
  subst e;obtain⟨o,e,c,d⟩:=st;exact⟨o,e,λv z=>by rw[d] at z;cases z⟩
 keep:=λi h h' st k=>st.at λo e=>k it (by simp) o e
 item:=by
  intro X hP hw hK hc i pins s σ H E I hf st hg;subst hP hw hK;obtain⟨xs,x,hq,hx⟩:=hg;obtain⟨its,rv,p,hz⟩:=I.list hq;obtain⟨u,hu,ru⟩:=rv.get hx;obtain⟨f0,f1,f2,f3,f4,f5⟩:=hf it (by simp);refine wpAny_pyNext_list_item st p.isList (x:=u) (by simpa using hu) λh' st' sb=> ?_
  have I1:Inv X pins σ H {s with heap:=h'}:=I.turned (t':=s.toks) (λb o hb e=>(sb.2 b hb).trans e) f0 f1 f3 f4 f5;obtain⟨o,e,c,d⟩:=id st';exact⟨u,rfl,aIO (s:={s with heap:=h'}) e c d (by decide) ⟨x,H,I1,ru,⟨rfl,λys hy=>by rw[I.list_inj hy hq];exact hx⟩,st',λb hb=>(hf b hb).1⟩⟩
 done:=by intro X hP hw hK hc i pins s σ H E I hf st hg;subst hP hw hK;obtain⟨xs,hq,hx⟩:=hg;obtain⟨its,rv,p,hz⟩:=I.list hq;obtain⟨f0,f1,f2,f3,f4,f5⟩:=hf it (by simp);have hl:=rv.length;exact wpAny_pyNext_list_end (I.ok.hd hc) st p.isList (by simp;omega) λh' eb=>⟨rfl,I.turned (t':=s.toks) (λb o hb e=>eb b o hb e) f0 f1 f3 f4 f5⟩
 self:=λ_ _ _ _ _ st h=>wpAny_pyIter_listiter st h
theorem aCa{K:aA}{tg:Expr}(a it:BF):aIG P w K tg (Itt K a) [it] it (λi h=>h.IsTupleIter it a i) where
 mem:=by simp
 obj:=λi h st b hb=>by
  have e:b=it:=by simpa using hb
  subst e;obtain⟨o,e,c,d⟩:=st;exact⟨o,e,λv z=>by rw[d] at z;cases z⟩
 keep:=λi h h' st k=>st.at λo e=>k it (by simp) o e
 item:=by
  intro X hP hw hK hc i pins s σ H E I hf st hg;subst hP hw hK;obtain⟨xs,x,hq,hx⟩:=hg;obtain⟨its,rv,p,hz⟩:=I.tuple hq;obtain⟨u,hu,ru⟩:=rv.get hx;obtain⟨f0,f1,f2,f3,f4,f5⟩:=hf it (by simp);refine wpAny_pyNext_tuple_item st (show s.heap.IsTuple a its.toArray from p) (x:=u) (by simpa using hu) λh' st' sb=> ?_
  have I1:Inv X pins σ H {s with heap:=h'}:=I.turned (t':=s.toks) (λb o hb e=>(sb.2 b hb).trans e) f0 f1 f3 f4 f5;obtain⟨o,e,c,d⟩:=id st';exact⟨u,rfl,aIO (s:={s with heap:=h'}) e c d (by decide) ⟨x,H,I1,ru,⟨rfl,λys hy=>by rw[I.tuple_inj hy hq];exact hx⟩,st',λb hb=>(hf b hb).1⟩⟩
 done:=by intro X hP hw hK hc i pins s σ H E I hf st hg;subst hP hw hK;obtain⟨xs,hq,hx⟩:=hg;obtain⟨its,rv,p,hz⟩:=I.tuple hq;obtain⟨f0,f1,f2,f3,f4,f5⟩:=hf it (by simp);have hl:=rv.length;exact wpAny_pyNext_tuple_end (I.ok.hd hc) st (show s.heap.IsTuple a its.toArray from p) (by simp;omega) λh' eb=>⟨rfl,I.turned (t':=s.toks) (λb o hb e=>eb b o hb e) f0 f1 f3 f4 f5⟩
 self:=λ_ _ _ _ _ st h=>wpAny_pyIter_tupleiter st h
theorem aBX{K:aA}{tg:Expr}(it:BF)(lo:Int)(n:Nat):aIG P w K tg (Itr lo n) [it] it (λi h=>IsRangeIter h it (lo+(i:Nat)*1) ((n:Int)-(i:Nat)) 1) where
 mem:=by simp
 obj:=λi h st b hb=>by
  have e:b=it:=by simpa using hb
  subst e
  exact ⟨_,st,fun v z=>by
   have z':Data.fields _=Data.cell v:=z
   cases z'⟩
 keep:=λi h h' st k=>k it (by simp) _ st
 item:=by
  intro X hP hw hK hc i pins s σ H E I hf st hg;subst hP hw hK;obtain⟨f0,f1,f2,f3,f4,f5⟩:=hf it (by simp);have W:=Walks.range (prog:=X.prog) (w:=X.w) (I.ok.hd hc) it lo 1 n;refine W.item i s _ _ hg st λv h' tk hv st' kk=> ?_
  obtain⟨t,rfl⟩:=hv;have I1:Inv X pins σ H {s with heap:=h',toks:=tk}:=I.turned (λb o hb e=>kk b o (by simpa using hb) e) f0 f1 f3 f4 f5;refine⟨_,rfl,aIO (s:={s with heap:=h',toks:=tk}) (n:="range_iterator") st' rfl rfl (by decide) ⟨.int<|lo+i,H,I1,⟨t, ?_⟩,⟨rfl,rfl⟩,st',λb hb=>(hf b hb).1⟩⟩;rw[Int.mul_one]
 done:=by intro X hP hw hK hc i pins s σ H E I hf st hg;subst hP hw hK;obtain⟨f0,f1,f2,f3,f4,f5⟩:=hf it (by simp);exact wpAny_pyNext_range_end (I.ok.hd hc) st (by have:n<=i:=hg;omega) λh' eb=>⟨rfl,I.turned (t':=s.toks) (λb o hb e=>eb b o hb e) f0 f1 f3 f4 f5⟩
 self:=λ_ _ _ _ _ st h=>wpAny_pyIter_rangeiter st h
variable {tg:Expr}
noncomputable def aOX(K:aA)(tl:TE):TI:=λσ H R=>tl σ H λx H1=>∃a,x=.ref a/\(∃xs,SqL K H1 a xs)/\R (Itl K a) H1
noncomputable def iTup(K:aA)(tl:TE):TI:=λσ H R=>tl σ H λx H1=>∃a,x=.ref a/\(∃xs,SqT K H1 a xs)/\R (Itt K a) H1
theorem aKj{l:Expr}{tl:TE}(hl:PE X l tl):PI X tg l (aOX X.K tl):=by
 intro pins s σ H R I h;refine thn (hl pins s σ H _ I h) λv s1 ⟨x,H1,I1,r1,q1⟩=> ?_
 obtain⟨a,e,⟨xs,hq⟩,q⟩:=q1;subst e;cases r1;obtain⟨its,rv,p,hz⟩:=I1.list hq;refine wpAny_pyIter_list p.isList ?_;refine⟨s1.heap.objs.size,[s1.heap.objs.size],_,_,H1,rfl,I1.kept (t':=s1.toks) λb o e=>aF _ e,aEI a _,⟨_,bN _ rfl,rfl,rfl⟩,λb hb=> ?_,q⟩;have e:b=s1.heap.objs.size:=by simpa using hb
 subst e;exact I1.fpOk (aJ _) (I1.hok.fresh<|aJ _)
theorem aMx{l:Expr}{tl:TE}(hl:PE X l tl):PI X tg l (iTup X.K tl):=by
 intro pins s σ H R I h;refine thn (hl pins s σ H _ I h) λv s1 ⟨x,H1,I1,r1,q1⟩=> ?_
 obtain⟨a,e,⟨xs,hq⟩,q⟩:=q1;subst e;cases r1;obtain⟨its,rv,p,hz⟩:=I1.tuple hq;refine wpAny_pyIter_tuple (show s1.heap.IsTuple a its.toArray from p) ?_;refine⟨s1.heap.objs.size,[s1.heap.objs.size],_,_,H1,rfl,I1.kept (t':=s1.toks) λb o e=>aF _ e,aCa a _,⟨_,bN _ rfl,rfl,rfl⟩,λb hb=> ?_,q⟩;have e:b=s1.heap.objs.size:=by simpa using hb
 subst e;exact I1.fpOk (aJ _) (I1.hok.fresh<|aJ _)
theorem aGf{R:It->Hp->Prop}{lo hi:Int}{t u v:Tok}{tk:Nat}(I:Inv X pins σ H s)(h1: -(2^62)<=lo)(h2:lo<2^62)(h3: -(2^62)<=hi)(h4:hi<2^62)
  (q:R (Itr lo (hi-lo).toNat) H):AK (AG X.prog X.w) X.A (pyIter<|.ref s.heap.objs.size) (PIE X pins σ tg R) E {s with heap:=s.heap.push {cls:=.type "range",data:=.fields #[.int lo t,.int hi u,.int 1 v]},toks:=tk}:=by
 refine wpAny_pyIter_range (IsRange.new ..) (small_one h1 h2 h3 h4) ?_;have I1:Inv X pins σ H {s with heap:=s.heap.push {cls:=.type "range",data:=.fields #[.int lo t,.int hi u,.int 1 v]},toks:=tk}:=I.kept λb o e=>aF _ e
 refine ⟨(s.heap.push {cls:= .type "range",data:= .fields #[.int lo t, .int hi u, .int 1 v]}).objs.size,[(s.heap.push {cls:= .type "range",data:= .fields #[.int lo t, .int hi u, .int 1 v]}).objs.size],_,_,H,rfl,
  I1.kept (t':=tk) λb o e=>aF _ e,aBX _ lo (hi-lo).toNat, ?_,λb hb=> ?_,q⟩
 ·have e1:lo+((0:Nat):Int)*1=lo:=by simp
  have e2:(((hi-lo).toNat:Nat):Int)-((0:Nat):Int)=Builtin.Range.rangeSize lo hi 1:=by rw[rangeSize_one];split<;>omega
  show IsRangeIter _ _ (lo+((0:Nat):Int)*1) ((((hi-lo).toNat:Nat):Int)-((0:Nat):Int)) 1;rw[e1,e2];exact bN _ rfl
 ·have e:b=(s.heap.push {cls:=.type "range",data:=.fields #[.int lo t,.int hi u,.int 1 v]}).objs.size:=by simpa using hb
  subst e;exact I1.fpOk (aJ _) (I1.hok.fresh<|aJ _)
noncomputable def aOO(ta:TA):TI:=λσ H R=>ta σ H λvs H1=>∃j:Int,vs=[.int j]/\ -(2^62)<=j/\j<2^62/\R (Itr 0 j.toNat) H1
theorem aFf{a:Expr}{ta:TA}{p:Pos}(hg:Gl X "range")(hm:X.mg "range"=none)(ha:PA X [a] ta)(hs:AB [a] X.env=[(false,eval a X.env)]:=by rfl):PI X tg (.Call (.Name "range" p) [a] [] pos) (aOO ta):=by
 intro pins s σ H R I h;refine Call_ (lW I hg hm boot_range<|PyProof.Rows.callWith_type1 (thn (ha pos pins s σ H _ I h) λus s1 ⟨vs,H1,I1,r1,q1⟩=> ?_) hs rfl);obtain⟨j,e,q1,q2,q⟩:=q1;subst e;cases r1 with
 |cons r rr=>cases rr;obtain⟨t,rfl⟩:=r;exact call_range_1 (aGf I1 (by omega) (by omega) q1 q2<|by simpa using q)
noncomputable def tFor(wi:TI)(g:TG)(tb:TS):TS:=λD σ H=>wi σ H λJ H1=>∃W:Nat->Nat->St->Hp->Prop,(∃m,W 0 m σ H1)/\∀i m σ H,W i m σ H->
 (J.stop i H/\D.nx σ H)\/(J.go i H/\∃N:St->Hp->Prop,(∀σ' H',N σ' H'->∃m',m'<m/\W (i+1) m' σ' H')/\∀x H',J.yld i H x H'->g x σ H' λσ2 H2=>tb {D with nx:=N,ct:=N,bk:=D.nx} σ2 H2)
noncomputable def mW(fp:List BF)(h:BH):List (BF×BI):=fp.filterMap λb=>(h.get? b).map λo=>(b,o)
theorem iW{fp:List BF}{b:BF}{o:BI}(hb:b∈fp)(e:h.get? b=some o):(b,o)∈mW fp h:=aHt.mpr ⟨b,hb,by rw[e];rfl⟩
theorem rX{fp:List BF}{p:BF×BI}(hp:p∈mW fp h):p.1∈fp/\h.get? p.1=some p.2:=by
 obtain⟨b,hb,e⟩:=aHt.mp hp;cases q:h.get? b with
 |none=>rw[q] at e;cases e
 |some o=>rw[q] at e;have e':(b,o)=p:=bM.inj e;subst e';exact⟨hb,q⟩
theorem Inv.pinned{fp:List BF}(I:Inv X pins σ H s)(hf:∀b∈fp,uL X pins H b)(ho:∀b∈fp,∃o,s.heap.get? b=some o/\∀v,o.data≠ .cell v):Inv X (pins++mW fp s.heap) σ H s:=
 I.pins_of λp hp=>(aU.mp hp).elim (λz=>I.pin p<|aI _ z) λz=>by obtain⟨hb,e⟩:=rX z;obtain⟨f0,f1,f2,_⟩:=hf p.1 hb;obtain⟨o,e',d⟩:=ho p.1 hb;rw[e] at e';cases e';exact⟨e,f0,f1,f2,d⟩
theorem Inv.unpinned{pl:List (BF×BI)}(I:Inv X (pins++pl) σ H s):Inv X pins σ H s:=I.pins_of λp hp=>I.pin p (aI _<|bL _ hp)
theorem aHD{iter:Expr}{body:List BJ}{wi:TI}{g:TG}{tb:TS}(hp:PassesOwn (AG X.prog X.w) X.A X.env X.xe)(hc:X.calm=true)(hi:PI X tg iter wi)(hg:PG X tg g)(hb:PSs X body tb)
  (hs:∀x,Ay iter X.env x=pure x:=by intro _;rfl):PS X (.For tg iter body [] pos) (tFor wi g tb):=by
 intro pins s σ H D I h;refine wpAny_For (thn (hi pins s σ H _ I h) λv s1 h1=>thn h1 λitv s2 h2=> ?_) hs;obtain⟨it,fp,tn,J,H2,e,I2,T,st2,f2,W,⟨m0,w0⟩,turn⟩:=h2;subst e
 have stat:∀ {H':Hp},(∀b∈fp,H' b=none)->∀b∈fp,uL X pins H' b:=λhn b hb=>⟨hn b hb,(f2 b hb).2⟩
 refine codeAny_forLoop_any (λn s'=>∃i σ' H',Inv X pins σ' H' s'/\tn i s'.heap/\(∀b∈fp,H' b=none)/\W i n σ' H') ?_ m0 ⟨0,σ,H2,I2,st2,λb hb=>(f2 b hb).1,w0⟩;rintro n s3 ⟨i,σ3,H3,I3,st3,fr3,w3⟩
 rcases turn i n σ3 H3 w3 with⟨stop,qn⟩|⟨go,N,hN,step⟩
 ·refine Ap hp<|thn (T.done X rfl rfl rfl hc i pins s3 σ3 H3 X.xe I3 (stat fr3) st3 stop) λr s4 ⟨hr,I4⟩=> ?_;subst hr;exact wpAny_execs_nil ⟨σ3,H3,I4,qn⟩
 ·refine Ap hp<|thn (T.item X rfl rfl rfl hc i pins s3 σ3 H3 X.xe I3 (stat fr3) st3 go) λr s4 ⟨u,hr,h4⟩=> ?_;subst hr;refine Ap hp<|thn h4 λ_ s5 ⟨x,H5,I5,r5,y5,st5,fr5⟩=> ?_;have I5':=I5.pinned (stat fr5)<|T.obj _ _ st5;refine Ap hp<|thn (hg _ s5 σ3 H5 x u _ I5' r5<|step x H5 y5) λ_ s6 ⟨σ6,H6,I6,q6⟩=> ?_;refine Ap hp (thn (hb _ s6 σ6 H6 _ I6 q6) λf s7 q7=> ?_)
  have again:∀ {σ7:St}{H7:Hp},Inv X (pins++mW fp s5.heap) σ7 H7 s7->N σ7 H7->∃m,m<n/\∃i σ' H',Inv X pins σ' H' s7/\tn i s7.heap/\(∀b∈fp,H' b=none)/\W i m σ' H':=λ{σ7 H7} I7 n7=>by obtain⟨m',hm,w7⟩:=hN σ7 H7 n7;refine⟨m',hm,i+1,σ7,H7,I7.unpinned,T.keep _ _ _ st5 λb hb o e=>(I7.pin (b,o)<|aI _ (aI _<|iW hb e)).1,λb hb=> ?_,w7⟩;obtain⟨o,e,d⟩:=T.obj _ _ st5 b hb;exact(I7.pin (b,o)<|aI _ (aI _<|iW hb e)).2.1
  cases f with
  |next=>obtain⟨σ7,H7,I7,n7⟩:=q7;exact again I7 n7
  |cont=>obtain⟨σ7,H7,I7,n7⟩:=q7;exact again I7 n7
  |brk=>obtain⟨σ7,H7,I7,q7⟩:=q7;exact⟨σ7,H7,I7.unpinned,q7⟩
  |ret v=>obtain⟨x7,σ7,H7,I7,r7,q7⟩:=q7;exact⟨x7,σ7,H7,I7.unpinned,r7,q7⟩
noncomputable abbrev R2:=V->V->Hp->VK->Prop
def OpR(X:Cx)(f:BD->BD->Sem BD)(r:R2):Prop:=
 ∀ (pins:List (BF×BI)) (s:BE) (σ:St) (H:Hp) (x y:V) (v u:BD) (Q:VK),Inv X pins σ H s->RelV x v->RelV y u->r x y H Q->
  AK (AG X.prog X.w) X.A (f v u) (EP X pins σ Q) X.xe s
def mL(X:Cx)(f:BD)(r:List V->Hp->VK->Prop):Prop:=
 ∀ (pins:List (BF×BI)) (s:BE) (σ:St) (H:Hp) (xs:List V) (us:List BD) (Q:VK),Inv X pins σ H s->Vals xs us->r xs H Q->
  AK (AG X.prog X.w) X.A (call f us) (EP X pins σ Q) X.xe s
noncomputable def tOp(r:R2)(ta tb:TE):TE:=λσ H Q=>ta σ H λx H1=>tb σ H1 λy H2=>r x y H2 Q
noncomputable def rI(C:Int->Int->Prop)(g:Int->Int->V):R2:=λx y H Q=>∃i j,x=.int i/\y=.int j/\C i j/\Q (g i j) H
noncomputable def rI0(g:Int->Int->V):R2:=λx y H Q=>∃i j,x=.int i/\y=.int j/\Q (g i j) H
def rU(g:Int->V):V->Hp->VK->Prop:=λx H Q=>∃i,x=.int i/\Q (g i) H
variable {a c:Expr}{tc:TE}
theorem aNW(ha:PE X a ta)(hb:PE X b tb){R:V->V->Hp->Prop}(I:Inv X pins σ H s)
  (h:ta σ H λx H1=>tb σ H1 λy H2=>R x y H2) {Q:BD->BE->Prop}{f:BD->BD->Sem BD}
  (hf:∀v u s2 x y H2,Inv X pins σ H2 s2->RelV x v->RelV y u->R x y H2->AK (AG X.prog X.w) X.A (f v u) Q X.xe s2):
  AK (AG X.prog X.w) X.A (eval a X.env) (λv s₁=>AK (AG X.prog X.w) X.A (eval b X.env) (λu s₂=>AK (AG X.prog X.w) X.A (f v u) Q X.xe s₂) X.xe s₁) X.xe s:=by
 refine thn (ha pins s σ H _ I h) λv s1 ⟨x,H1,I1,r1,q1⟩=> ?_
 refine thn (hb pins s1 σ H1 _ I1 q1) λu s2 ⟨y,H2,I2,r2,q2⟩=> ?_
 exact hf v u s2 x y H2 I2 r1 r2 q2
theorem aOG{op:Operator}{r:R2}(ho:OpR X (Ao op) r)(ha:PE X a ta)(hb:PE X b tb):PE X (.BinOp a op b pos) (tOp r ta tb):=by intro pins s σ H Q I h;exact wpAny_BinOp<|aNW ha hb I h λv u s2 x y H2 I2 rx ry q=>ho pins s2 σ H2 x y v u Q I2 rx ry q
theorem opI{f:BD->BD->Sem BD}{C:Int->Int->Prop}{g:Int->Int->Int}
  (rule:∀ (i j:Int) (t u:Tok) (s:BE) (Q:BD->BE->Prop) (E:BD->BE->Prop),C i j->Q (.int (g i j) s.toks) {s with toks:=s.toks+1}->AK (AG X.prog X.w) X.A (f (.int i t)<|.int j u) Q E s):
  OpR X f (rI C λi j=>.int<|g i j):=by
 intro pins s σ H x y v u Q I rx ry h;obtain⟨i,j,rfl,rfl,hc,q⟩:=h;obtain⟨t,rfl⟩:=rx;obtain⟨t',rfl⟩:=ry;exact rule i j t t' s _ _ hc ⟨.int<|g i j,H,I.tok _,⟨_,rfl⟩,q⟩
theorem aLx{f:BD->BD->Sem BD}{g:Int->Int->Int}
  (rule:∀ (i j:Int) (t u:Tok) (s:BE) (Q:BD->BE->Prop) (E:BD->BE->Prop),Q (.int (g i j) s.toks) {s with toks:=s.toks+1}->AK (AG X.prog X.w) X.A (f (.int i t)<|.int j u) Q E s):
  OpR X f (rI0 λi j=>.int<|g i j):=by
 intro pins s σ H x y v u Q I rx ry h;obtain⟨i,j,rfl,rfl,q⟩:=h;obtain⟨t,rfl⟩:=rx;obtain⟨t',rfl⟩:=ry;exact rule i j t t' s _ _ ⟨.int<|g i j,H,I.tok _,⟨_,rfl⟩,q⟩
theorem aNH{f:BD->BD->Sem BD}{g:Int->Int->Bool}
  (rule:∀ (i j:Int) (t u:Tok) (s:BE) (Q:BD->BE->Prop) (E:BD->BE->Prop),Q (.bool<|g i j) s->AK (AG X.prog X.w) X.A (f (.int i t)<|.int j u) Q E s):
  OpR X f (rI0 λi j=>.bl<|g i j):=by
 intro pins s σ H x y v u Q I rx ry h;obtain⟨i,j,rfl,rfl,q⟩:=h;obtain⟨t,rfl⟩:=rx;obtain⟨t',rfl⟩:=ry;exact rule i j t t' s _ _ ⟨.bl<|g i j,H,I,rfl,q⟩
def CDiv(i j:Int):Prop:=0<j/\j<1073741824
def CPow(i j:Int):Prop:=0<=j/\j<=1000000/\i.natAbs<2^64
theorem iG:OpR X (Ao .Add) (rI0 λi j=>.int<|i+j):=aLx λ_ _ _ _ _ _ _ q=>add_int q
theorem mX:OpR X (Ao .Sub) (rI0 λi j=>.int<|i-j):=aLx λ_ _ _ _ _ _ _ q=>sub_int q
theorem aKd:OpR X (Ao .FloorDiv) (rI CDiv λi j=>.int<|i / j):=opI λi j _ _ _ _ _ hc q=>by have h1:(0:Int)<j:=hc.1;have h2:j<1073741824:=hc.2;exact floordiv_int (by omega) (by rw[aAf i<|by omega];exact q)<|.inl (PyProof.noPylong_small<|by omega)
theorem gY:OpR X (Ao .Mod) (rI (λ_ j=>0<j) λi j=>.int<|i%j):=opI λi j _ _ _ _ _ hc q=>by have h1:(0:Int)<j:=hc;exact mod_int' (by omega) (by rw[Int.fmod_eq_emod_of_nonneg i<|by omega];exact q)
theorem aNw:OpR X (Ao .LShift) (rI CPow λi j=>.int<|i*2^j.toNat):=opI λ_ _ _ _ _ _ _ hc q=>lshift_int_small hc.1 hc.2.1 hc.2.2 q
theorem aNu:OpR X (Ao .BitAnd) (rI0 λi j=>.int<|Builtin.bitAnd i j):=aLx λ_ _ _ _ _ _ _ q=>and_int q
theorem aOJ:OpR X (Ao .BitOr) (rI0 λi j=>.int<|Builtin.bitOr i j):=aLx λ_ _ _ _ _ _ _ q=>or_int q
theorem aMA:OpR X (Ao .BitXor) (rI0 λi j=>.int<|Builtin.bitXor i j):=aLx λ_ _ _ _ _ _ _ q=>xor_int q
noncomputable def aLu:V->V->Bool
 |.non,.non=>true | .non,.int _=>true | .int _,.non=>true | .non,.bl _=>true | .bl _,.non=>true | .non,.str _=>true | .str _,.non=>true
 |.int _,.int _=>true | .bl _,.bl _=>true | .str _,.str _=>true | .byt _,.byt _=>true
 |.int _,.str _=>true | .str _,.int _=>true | .bl _,.str _=>true | .str _,.bl _=>true
 |_,_=>false
noncomputable def rEq:R2:=λx y H Q=>aLu x y=true/\Q (.bl (decide<|x=y)) H
noncomputable def rNe:R2:=λx y H Q=>aLu x y=true/\Q (.bl<|!decide (x=y)) H
theorem aAr{i j:Int}:decide (V.int i=V.int j)=(i==j):=by rw[gQ];simp
theorem aIk{i j:Bool}:decide (V.bl i=V.bl j)=(i==j):=by rw[gQ];simp
theorem aDB{i j:Str}:decide (V.str i=V.str j)=(i==j):=by rw[gQ];simp
theorem aDy{i j:Array UInt8}:decide (V.byt i=V.byt j)=(i.toList==j.toList):=by rw[gQ];cases i;cases j;simp
theorem dZ{Q:VK}{k k':Bool}(I:Inv X pins σ H s)(q:Q (.bl k) H)(e:k=k'):EP X pins σ Q (.bool k') s:=by subst e;exact⟨.bl k,H,I,rfl,q⟩
theorem aLI:OpR X (AW .Eq) rEq:=by
 intro pins s σ H x y v u Q I rx ry h;obtain⟨hs,q⟩:=h;cases x with
 |non=>
  cases rx;cases y with
  |non=>cases ry;exact PySem.EqNone.eq_none_none (dZ I q<|by simp)
  |bl j=>cases ry;exact PySem.EqNone.eq_none_bool (dZ I q<|by simp)
  |int j=>obtain⟨t',rfl⟩:=ry;exact PySem.EqNone.eq_none_int (dZ I q<|by simp)
  |str j=>obtain⟨t',rfl⟩:=ry;exact PySem.EqNone.eq_none_str (dZ I q<|by simp)
  |_=>exact absurd (show false=true from hs) bH
 |bl i=>
  cases rx;cases y with
  |non=>cases ry;exact PySem.EqNone.eq_bool_none (dZ I q<|by simp)
  |bl j=>cases ry;exact eq_bool<|dZ I q aIk
  |str j=>obtain⟨t',rfl⟩:=ry;exact PySem.EqMixed.eq_bool_str (dZ I q<|by simp)
  |_=>exact absurd (show false=true from hs) bH
 |int i=>
  obtain⟨t,rfl⟩:=rx;cases y with
  |non=>cases ry;exact PySem.EqNone.eq_int_none (dZ I q<|by simp)
  |int j=>obtain⟨t',rfl⟩:=ry;exact eq_int<|dZ I q aAr
  |str j=>obtain⟨t',rfl⟩:=ry;exact PySem.EqMixed.eq_int_str (dZ I q<|by simp)
  |_=>exact absurd (show false=true from hs) bH
 |str i=>
  obtain⟨t,rfl⟩:=rx;cases y with
  |non=>cases ry;exact PySem.EqNone.eq_str_none (dZ I q<|by simp)
  |bl j=>cases ry;exact PySem.EqMixed.eq_str_bool (dZ I q<|by simp)
  |int j=>obtain⟨t',rfl⟩:=ry;exact PySem.EqMixed.eq_str_int (dZ I q<|by simp)
  |str j=>obtain⟨t',rfl⟩:=ry;exact eq_str<|dZ I q aDB
  |_=>exact absurd (show false=true from hs) bH
 |byt i=>
  obtain⟨t,rfl⟩:=rx;cases y with
  |byt j=>obtain⟨t',rfl⟩:=ry;exact PySem.W.eq_bytes<|dZ I q aDy
  |_=>exact absurd (show false=true from hs) bH
 |_=>cases y<;>exact absurd (show false=true from hs) bH
theorem aOT:OpR X (AW .NotEq) rNe:=by
 intro pins s σ H x y v u Q I rx ry h;obtain⟨hs,q⟩:=h;cases x with
 |non=>
  cases rx;cases y with
  |non=>cases ry;exact PySem.EqNone.ne_none_none (dZ I q<|by simp)
  |bl j=>cases ry;exact PySem.EqNone.ne_none_bool (dZ I q<|by simp)
  |int j=>obtain⟨t',rfl⟩:=ry;exact PySem.EqNone.ne_none_int (dZ I q<|by simp)
  |str j=>obtain⟨t',rfl⟩:=ry;exact PySem.EqNone.ne_none_str (dZ I q<|by simp)
  |_=>exact absurd (show false=true from hs) bH
 |bl i=>
  cases rx;cases y with
  |non=>cases ry;exact PySem.EqNone.ne_bool_none (dZ I q<|by simp)
  |bl j=>cases ry;exact ne_bool (dZ I q<|congrArg not aIk)
  |str j=>obtain⟨t',rfl⟩:=ry;exact PySem.EqMixed.ne_bool_str (dZ I q<|by simp)
  |_=>exact absurd (show false=true from hs) bH
 |int i=>
  obtain⟨t,rfl⟩:=rx;cases y with
  |non=>cases ry;exact PySem.EqNone.ne_int_none (dZ I q<|by simp)
  |int j=>obtain⟨t',rfl⟩:=ry;exact ne_int (dZ I q<|congrArg not aAr)
  |str j=>obtain⟨t',rfl⟩:=ry;exact PySem.EqMixed.ne_int_str (dZ I q<|by simp)
  |_=>exact absurd (show false=true from hs) bH
 |str i=>
  obtain⟨t,rfl⟩:=rx;cases y with
  |non=>cases ry;exact PySem.EqNone.ne_str_none (dZ I q<|by simp)
  |bl j=>cases ry;exact PySem.EqMixed.ne_str_bool (dZ I q<|by simp)
  |int j=>obtain⟨t',rfl⟩:=ry;exact PySem.EqMixed.ne_str_int (dZ I q<|by simp)
  |str j=>obtain⟨t',rfl⟩:=ry;exact ne_str (dZ I q<|congrArg not aDB)
  |_=>exact absurd (show false=true from hs) bH
 |byt i=>
  obtain⟨t,rfl⟩:=rx;cases y with
  |byt j=>obtain⟨t',rfl⟩:=ry;exact PySem.W.ne_bytes (dZ I q<|congrArg not aDy)
  |_=>exact absurd (show false=true from hs) bH
 |_=>cases y<;>exact absurd (show false=true from hs) bH
theorem aLL:OpR X (AW .Lt) (rI0 λi j=>.bl (decide<|i<j)):=aNH λ_ _ _ _ _ _ _ q=>lt_int q
theorem aLB:OpR X (AW .LtE) (rI0 λi j=>.bl (decide<|i<=j)):=aNH λ_ _ _ _ _ _ _ q=>le_int q
theorem aLV:OpR X (AW .Gt) (rI0 λi j=>.bl (decide<|j<i)):=aNH λ_ _ _ _ _ _ _ q=>gt_int q
theorem aJa:OpR X (AW .GtE) (rI0 λi j=>.bl (decide<|j<=i)):=aNH λ_ _ _ _ _ _ _ q=>ge_int q
theorem aIa:OpR X (AW .Is) (λx y H Q=>y=.non/\Q (.bl (decide<|x=.non)) H):=by
 intro pins s σ H x y v u Q I rx ry h;obtain⟨rfl,q⟩:=h;cases ry;refine is_none_gen<|dZ I q ?_
 cases x<;>first
  |(cases rx;rfl)
  |(obtain⟨t,rfl⟩:=rx;rfl)
theorem aJg:OpR X (AW .IsNot) (λx y H Q=>y=.non/\Q (.bl<|!decide (x=.non)) H):=by
 intro pins s σ H x y v u Q I rx ry h;obtain⟨rfl,q⟩:=h;cases ry;refine isnot_none_gen<|dZ I q ?_
 cases x<;>first
  |(cases rx;rfl)
  |(obtain⟨t,rfl⟩:=rx;rfl)
theorem OpR.or{f:BD->BD->Sem BD}{r r':R2}(h:OpR X f r)(h':OpR X f r'):OpR X f (λx y H Q=>r x y H Q\/r' x y H Q):=by
 intro pins s σ H x y v u Q I rx ry q
 rcases q with q|q
 ·exact h pins s σ H x y v u Q I rx ry q
 ·exact h' pins s σ H x y v u Q I rx ry q
theorem iH(b:Expr){op:CmpOp}(h:op≠ .In:=by decide)(h2:op≠ .NotIn:=by decide):AU op b=false:=by
 have e1:(op==CmpOp.In)=false:=by cases op<;>first|rfl|exact absurd rfl h
 have e2:(op==CmpOp.NotIn)=false:=by cases op<;>first|rfl|exact absurd rfl h2
 cases b<;>simp[AU,e1,e2]
theorem aJv{op:CmpOp}{r:R2}(ho:OpR X (AW op) r)(ha:PE X a ta)(hb:PE X b tb)(hm:AU op b=false):PE X (.Compare a [op] [b] pos) (tOp r ta tb):=by intro pins s σ H Q I h;exact wpAny_Compare1 (aNW ha hb I h λv u s2 x y H2 I2 rx ry q=>ho pins s2 σ H2 x y v u Q I2 rx ry q) hm
noncomputable def aPa(t:TE):TT:=λσ H Q=>t σ H λx H'=>∃k,x=.bl k/\Q k H'
theorem aAg{op:CmpOp}{r:R2}(ho:OpR X (AW op) r)(ha:PE X a ta)(hb:PE X b tb)(hm:AU op b=false):PT X (.Compare a [op] [b] pos) (aPa<|tOp r ta tb):=by
 intro pins s σ H Q I h
 refine wpAny_isTrue_Compare1 (thn (ha pins s σ H _ I h) λv s1 ⟨x,H1,I1,r1,q1⟩=>thn (hb pins s1 σ H1 _ I1 q1) λu s2 ⟨y,H2,I2,r2,q2⟩=>thn (ho pins s2 σ H2 x y v u _ I2 r1 r2 q2) λc s3 ⟨z,H3,I3,r3,k,e,q3⟩=> ?_) hm
 subst e;cases r3;exact Ax ⟨H3,I3,q3⟩
theorem aCO:(AM:Nat)<2^63:=by rw[Aq];decide
theorem pG{x:V}{us:List BD}(r:Vals [x] us):∃u,us=[u]/\RelV x u:=by
 cases r with
 |cons r1 r2=>cases r2;exact⟨_,rfl,r1⟩
theorem aOZ{x y:V}{us:List BD}(r:Vals [x,y] us):∃u w',us=[u,w']/\RelV x u/\RelV y w':=by
 cases r with
 |cons r1 r2=>
  cases r2 with
  |cons r3 r4=>cases r4;exact⟨_,_,rfl,r1,r3⟩
structure ObjM(h:BH)(x dx C:BF)(mA:Str->Option BD):Prop where
 obj:h.get? x=some (cB C dx)
 ns:h.Ns1 dx mA
 ne:dx≠x
theorem aFm{dx:BF}{mA:Str->Option BD}(n:h.Ns1 dx mA):∃od,h.get? dx=some od/\∀name,oK name od=some (mA name):=by
 obtain⟨o,es,ep,ho,hd,hk,_,hm⟩:=n;refine⟨o,ho,λname=> ?_⟩;have e:=hm name;unfold nsFind findBy at e;rw[<-Array.find?_toList] at e;unfold oK;rw[hd];dsimp only
 split
 ·rename_i y q;rw[q] at e;exact congrArg some e
 ·rename_i q;rw[q] at e
  have a:es.toList.any (·.refKey)=false:=by rw[List.any_eq_false];intro y hy;obtain⟨z,t,hkey⟩:=hk y<|Array.mem_toList_iff.mp hy;simp[DictEntry.refKey,hkey]
  have a':¬ es.toList.any (·.refKey)=true:=by rw[a];exact bH
  rw[if_neg a'];exact congrArg some e
theorem ObjM.look{dx C:BF}{mA:Str->Option BD}(I:ObjM h x dx C mA):∃od,PySem.W.InstAt h x (cB C dx) C (some od)/\∀name,oK name od=some (mA name):=
 let ⟨od,ho,hl⟩:=aFm I.ns
 ⟨od,⟨I.obj,rfl,rfl,ho⟩,hl⟩
variable {prog:AE}{A:BG}{K:aA}{dx C f:BF}{mA:Str->Option BD}{name:Str}{v:BD}
theorem zJ{expr:Bool}{Q:BD->BE->Prop}(X:K.In s.heap)(I:ObjM s.heap x dx C mA)(hg:jS K C name=true)(hh:lS K C=true)
  (ha:cA K (.ref C) name=some none) (hv:mA name=some v) (hv':aFE v=true) (h:Q v {s with toks:=s.toks+1}):
  AK (AG prog w) A (getAttr (.ref x) name expr) Q E s:=by
 obtain⟨od,J,hl⟩:=I.look;exact PySem.W.get_value X J (pE hg).1 (PySem.W.findObj_own hh ha rfl<|by rw[hl,hv]) hv' h
theorem aBc{pl:Sem Bool}{Q:BD×List BD->BE->Prop}(X:K.In s.heap)(I:ObjM s.heap x dx C mA)(hg:jS K C name=true)
  (hf:cA K (.ref C) name=some (some<|.ref f)) (ht:nA K (.ref f)=true) (hv:mA name=none) (h:Q (.ref f,[.ref x]) s):
  AK (AG prog w) A (getMethod (.ref x) name pl) Q E s:=by
 obtain⟨od,J,hl⟩:=I.look;exact PySem.W.method_fn X J (pE hg).1 (pE hg).2 hf (beq_iff_eq.mp ht) (by show(oK name od).map (·.isSome)=some false;rw[hl,hv];rfl) h
theorem aKx{ns:List Str}{Q:Unit->BE->Prop}(X:K.In s.heap)(I:ObjM s.heap x dx C mA)
  (hs:cA K (.ref C) "__setattr__"=some (some<|.builtin "object.__setattr__")) (hp:rB K C=true) (ht:sZ K C name=some none) (hh:lS K C=true)
  (hw:PySem.Within mA ns) (hsz:ns.length<=AM)
  (h:∀h',ObjM h' x dx C (λy=>if y=name then some v else mA y)->Heap.SameBut dx s.heap h'->Q () {s with heap:=h',toks:=s.toks+2}):
  AK (AG prog w) A (setAttr (.ref x) name v) Q E s:=by
 obtain⟨od,J,hl⟩:=I.look;refine PySem.W.set_plain X J hs<|PySem.W.osa_open (s:={s with toks:=s.toks+1}) (r:=none) X J hp ht λb=> ?_;obtain⟨cd,hc,hd'⟩:=PySem.W.any_some hh;have hx:s.heap.get? x=some ⟨.ref C,some dx,.plain, #[]⟩:=I.obj;refine AA (AC<|AA (AA<|wpAny_loadPart hx (AA<|PySem.W.Looks.here (s:={s with toks:=s.toks+1}) (PySem.W.looks_clsIn X hc) ?_)));rw[hd'];refine AC (a:=some dx)<|AA (AC<|AA ?_);refine wpAny_nsSet1 (s:={s with toks:=s.toks+1}) I.ns λh' hn2 hs2=> ?_
 obtain⟨oD,esD,epD,hoD,hdD,hcD⟩:=hn2.count<|PySem.Within.cons name v hw;refine AA<|wpAny_lookBehind hoD (by rw[hdD];exact pastItsLine_dict (cD hcD<|by rw[bD];omega)) ?_;exact AC<|h _ ⟨(hs2.2 _<|Ne.symm I.ne).trans I.obj,hn2,I.ne⟩ hs2
theorem aHk{R:Result->BE->Prop}{vs:List BD}{kw:List (Str×BD)}(X:K.In s.heap)(hm:tE K C=true)
  (hi:cA K (.ref C) "__init__"=some (some<|.ref f)) (hf:PySem.W.typeIn K (.ref f)=some (.type "function"))
  (h:Az (AG prog w) (A.under (.builtin "type.__call__" ⟨.ref C::vs,kw⟩)) (.call (.ref f) ⟨.ref (s.heap.objs.size+1)::vs,kw⟩) (PySem.W.InitBack (s.heap.objs.size+1) R)
   {s with heap:=(s.heap.push eK).push (cB C s.heap.objs.size)}):
  Az (AG prog w) A (.call (.ref C) ⟨vs,kw⟩) R s:=by
 obtain⟨hh,g,d,t,os⟩:=s;exact PySem.W.make_core (PySem.W.makes_of X hm) (PySem.W.looks_findIn X hi) (λself=>PySem.W.bind_fn X self hf) (.inl rfl) h
noncomputable def mI(f:Str)(v:V):List (Str×V)->List (Str×V)
 |[]=>[(f,v)]
 |(g,x)::r=>if g=f then(g,v)::r else(g,x)::mI f v r
theorem eY(f g:Str)(v:V):∀fs:List (Str×V),(mI f v fs).lookup g=if g=f then some v else fs.lookup g
 |[]=>by
  show iF g [(f,v)]=_
  by_cases h:g=f
  ·have hb:(g==f)=true:=beq_iff_eq.mpr h;simp only[iF,hb,if_pos h]
  ·have hb:(g==f)=false:=beq_eq_false_iff_ne.mpr h;simp only[iF,hb,if_neg h]
 |(k,x)::r=>by
  have ih:=eY f g v r;rw[show mI f v ((k,x)::r)=(if k=f then(k,v)::r else(k,x)::mI f v r) from rfl]
  by_cases hk:k=f
  ·rw[if_pos hk]
   by_cases h:g=k
   ·have hb:(g==k)=true:=beq_iff_eq.mpr h;simp only[iF,hb,if_pos<|h.trans hk]
   ·have hb:(g==k)=false:=beq_eq_false_iff_ne.mpr h;simp only[iF,hb,if_neg (λe:g=f=>h<|e.trans hk.symm)]
  ·rw[if_neg hk]
   by_cases h:g=k
   ·have hb:(g==k)=true:=beq_iff_eq.mpr h;simp only[iF,hb,if_neg (λe:g=f=>hk<|h.symm.trans e)]
   ·have hb:(g==k)=false:=beq_eq_false_iff_ne.mpr h;simp only[iF,hb];exact ih
theorem rM(f:Str)(v:V):∀fs:List (Str×V),f∈(mI f v fs).map (·.1)/\∀g,g∈fs.map (·.1)->g∈(mI f v fs).map (·.1)
 |[]=>⟨by simp[mI],λg h=>by simp at h⟩
 |(k,x)::r=>by
  obtain⟨i1,i2⟩:=rM f v r;rw[show mI f v ((k,x)::r)=(if k=f then(k,v)::r else(k,x)::mI f v r) from rfl]
  by_cases hk:k=f
  ·rw[if_pos hk];subst hk;exact⟨by simp,λg h=>by simpa using h⟩
  ·rw[if_neg hk];refine⟨?_,λg h=> ?_⟩
   ·rw[aW];exact aE _ i1
   ·rw[aW] at h ⊢
    rcases bA.mp h with e|e
    ·exact bA.mpr<|.inl e
    ·exact aE _<|i2 g e
theorem lH(f:Str)(v:V):∀fs:List (Str×V),(mI f v fs).length<=fs.length+1
 |[]=>by simp[mI]
 |(k,x)::r=>by
  have ih:=lH f v r;rw[show mI f v ((k,x)::r)=(if k=f then(k,v)::r else(k,x)::mI f v r) from rfl]
  by_cases hk:k=f
  ·rw[if_pos hk,bD,bD];omega
  ·rw[if_neg hk,bD,bD];omega
theorem RelO.some_of{v:V}{o:Option BD}(r:RelO (some v) o):∃u,o=some u/\RelV v u:=by
 cases o with
 |none=>exact(show False from r).elim
 |some u=>exact⟨u,rfl,r⟩
theorem RelO.none_of{o:Option BD}(r:RelO none o):o=none:=by
 cases o with
 |none=>rfl
 |some u=>exact(show False from r).elim
theorem rY{v:V}{u:BD}(r:RelV v u):aFE u=true:=by
 cases v with
 |non=>cases(show u=Value.none from r);rfl
 |bl b=>cases(show u=Value.bool b from r);rfl
 |int i=>obtain⟨t,e⟩:=(show ∃t,u=Value.int i t from r);cases e;rfl
 |str x=>obtain⟨t,e⟩:=(show ∃t,u=Value.str x t from r);cases e;rfl
 |byt b=>obtain⟨t,e⟩:=(show ∃t,u=Value.bytes b t from r);cases e;rfl
 |flt b=>obtain⟨t,e⟩:=(show ∃t,u=Value.float b t from r);cases e;rfl
 |ref a=>cases(show u=Value.ref a from r);rfl
 |ty n=>cases(show u=Value.type n from r);rfl
variable {a:BF}{fs fs':List (Str×V)}
theorem aDK(hok:HOk P w H h)(e:H a=some (.ins C dx fs)):∃mA,ObjM h a dx C mA/\(∀f,RelO (fs.lookup f)<|mA f)/\PySem.Within mA (fs.map (·.1))/\fs.length<=1000/\H dx=some (.own a):=by obtain⟨d,z,ne,ob,mA,n,r,q⟩:=(show ObjOk P w H h a (.ins C dx fs) from hok a _ e);exact⟨mA,⟨ob,n,ne⟩,r,q,z,d⟩
structure Cls(K:aA)(C:BF):Prop where
 pg:jS K C Str.empty=true
 hd:lS K C=true
 po:rB K C=true
 sa:cA K (.ref C) "__setattr__"=some (some<|.builtin "object.__setattr__")
theorem Cls.get(c:Cls K C)(f:Str):jS K C f=true:=c.pg
def NoAttr(K:aA)(C:BF)(f:Str):Prop:=cA K (.ref C) f=some none
theorem NoAttr.taker{f:Str}(n:NoAttr K C f):sZ K C f=some none:=by unfold sZ;rw[show cA K (.ref C) f=some none from n];rfl
structure Con(K:aA)(C:BF)(f:Str)(v:V)(u:BD):Prop where
 at_:cA K (.ref C) f=some (some u)
 rel:RelV v u
 get:aFz K u "__get__"=some none
 cp:PySem.W.copiedNames.contains f=false
structure aKW(K:aA)(C:BF)(m:Str)(f:BF):Prop where
 at_:cA K (.ref C) m=some (some<|.ref f)
 fn:nA K (.ref f)=true
 kp:cG K (.ref f)=true
variable {f:Str}{v:V}
theorem aBT{y:V}{u:BD}{Q:Unit->BE->Prop}(I:Inv X pins σ H s)(e:H a=some (.ins C dx fs))(c:Cls X.K C)(n:NoAttr X.K C f)(hl:fs.length<1000)(ry:RelV y u)
  (h:∀s',Inv X pins σ (upd H a (.ins C dx<|mI f y fs)) s'->Q () s'):AK (AG X.prog X.w) A (setAttr (.ref a) f u) Q E s:=by
 obtain⟨mA,O,r,wi,_,ho⟩:=aDK I.hok e;have hz:(fs.map (·.1)).length<=AM:=by rw[aC,Aq];omega
 refine aKx I.kIn O c.sa c.po n.taker c.hd wi hz λh' O' sb=>h _ ?_
 have hd:∃o,h'.get? dx=some o:=let ⟨o,_,_,e',_⟩:=O'.ns;⟨o,e'⟩
 refine I.write (x:=a) (e:=dx) (by rw[e];exact True.intro) (.inr ho) (λb q hb z=>(sb.2 b hb).trans z) hd ?_;refine⟨by rw[aR O.ne];exact ho, ?_,O.ne,O'.obj,_,O'.ns,λg=> ?_,λg hg=> ?_⟩
 ·have:=lH f y fs;omega
 ·show RelO ((mI f y fs).lookup g) (if g=f then some u else mA g);rw[eY]
  by_cases q:g=f
  ·rw[if_pos q,if_pos q];exact ry
  ·rw[if_neg q,if_neg q];exact r g
 ·by_cases q:g=f
  ·rw[q];exact(rM f y fs).1
  ·refine(rM f y fs).2 g<|wi g λz=>hg ?_;show(if g=f then some u else mA g)=none;rw[if_neg q];exact z
theorem Inv.made(I:Inv X pins σ H s):Inv X pins σ (upd (upd H s.heap.objs.size (.own<|s.heap.objs.size+1)) (s.heap.objs.size+1)<|.ins C s.heap.objs.size [])
  {s with heap:=(s.heap.push eK).push (cB C s.heap.objs.size)}:=by
 have e1:(s.heap.push eK).get? s.heap.objs.size=some eK:=bN s.heap rfl
 have e2:((s.heap.push eK).push<|cB C s.heap.objs.size).get? (s.heap.objs.size+1)=some (cB C s.heap.objs.size):=by
  have:=bN (s.heap.push eK) (o:=cB C s.heap.objs.size) rfl
  rwa[lR] at this
 have e3:(s.heap.push eK).Ns s.heap.objs.size (λ_=>none):=⟨eK, #[],_,e1,rfl,(λe he=>absurd he<|by simp),λ_=>rfl⟩;have I1:=I.laid (a:=s.heap.objs.size) (o:=.own<|s.heap.objs.size+1) (h':=s.heap.push eK) (t':=s.toks) (λb u q=>aF _ q) (aJ _) ⟨_,e1⟩;refine I1.laid (a:=s.heap.objs.size+1) (o:=.ins C s.heap.objs.size []) (t':=s.toks) (λb u q=>aF _ q) (sT<|lR _ _) ?_;have ne:s.heap.objs.size≠s.heap.objs.size+1:=bQ<|gG _;refine⟨by rw[aR ne,bJ],cQ _,ne,e2,λ_=>none,(Heap.Ns1.of_empty e3).at λo q=>aF _ q,λ_=>True.intro,λy hy=>absurd rfl hy⟩
theorem zG{env:Env}{Q:BD->BE->Prop}(hb:Ae e f env (eval e env)=eval e env)
  (h:AK (AG prog w) A (eval e env) (λo s₁=>AK (AG prog w) A (getAttr o f true) Q E s₁) E s):AK (AG prog w) A (eval (.Attribute e f pos) env) Q E s:=
 Attribute_any_ h (by rw[arm_eval_Attribute,hb])
noncomputable def sFld(K:aA)(ta tv:TE)(f:Str):TS:=λD σ H=>tv σ H λy H1=>ta σ H1 λx H2=>∃a C dx fs,x=.ref a/\H2 a=some (.ins C dx fs)/\Cls K C/\NoAttr K C f/\fs.length<1000/\
 D.nx σ (upd H2 a (.ins C dx<|mI f y fs))
variable {o value:Expr}{pos' tpos:Pos}{tv:TE}
theorem aDq(ha:PE X o ta)(hv:PE X value tv)(hs:AY value (some<|.Attribute o f pos') pos.line X.env=pure false):PS X (.Assign [.Attribute o f pos'] value pos) (sFld X.K ta tv f):=by intro pins s σ H D I h;refine plainObj_wpAny_Assign_Attribute (thn (hv pins s σ H _ I h) λu s1 ⟨y,H1,I1,ry,q⟩=>thn (ha pins s1 σ H1 _ I1 q) λov s2 ⟨x,H2,I2,rx,a,C,dx,fs,ex,ea,c,n,l,q2⟩=> ?_) hs;subst ex;obtain rfl:ov=Value.ref a:=rx;exact aBT I2 ea c n l ry λs3 I3=>⟨σ,_,I3,q2⟩
variable {Q:BD->BE->Prop}{c:BD}{b:Bool}
inductive uX(K:aA)(H:Hp):V->BD->Prop where
 |non:uX K H .non (.type "NoneType")
 |bl (x:Bool):uX K H (.bl x) (.type "bool")
 |int (i:Int):uX K H (.int i) (.type "int")
 |str (x:Str):uX K H (.str x) (.type "str")
 |flt (x:UInt64):uX K H (.flt x) (.type "float")
 |lst {a:BF}{xs:List V} (e:H a=some (.lst xs)):uX K H (.ref a) (.type "list")
 |frz {a:BF}{o:BI}{xs:List V} (e:H a=some (.frz o<|.lst xs)):uX K H (.ref a) (.type "list")
 |tup {a:BF}{xs:List V} (e:H a=some (.tup xs)):uX K H (.ref a) (.type "tuple")
 |dK {a:BF}{kvs:List (Key×V)} (e:Rd H a (.dK kvs)):uX K H (.ref a) (.type "dict")
 |dT {a:BF}{kvs:List (List Key×V)} (e:H a=some (.dT kvs)):uX K H (.ref a) (.type "dict")
 |ins {a C dx:BF}{fs:List (Str×V)} (e:H a=some (.ins C dx fs)) (cl:Cls K C) (ha:cA K (.ref C) "__class__"=some (some<|.builtin "object.__class__"))
   (hn:aFz K (.builtin "object.__class__") "__get__"=some (some<|.builtin "getset_descriptor.__get__")) (htk:PySem.W.takesIn K (.builtin "object.__class__")=some true)
   (hm:xP K C (.type "object")=some true):uX K H (.ref a) (.ref C)
structure Room(k:Nat)(A:BG):Prop where
 hd:A.handled=none
 dp:A.depth+3*k+5<recursionLimit
 un:A.units+16*k+200<AS
 gd:A.guards=some []
theorem Room.mono{j k:Nat}(r:Room k A)(h:j<=k):Room j A:=⟨r.hd,by have:=r.dp;omega,by have:=r.un;omega,r.gd⟩
theorem Room.deeper{k:Nat}(r:Room (k+1) A)(env:Env):Room k (A.deeper env):=
 ⟨r.hd,by have:=r.dp;show A.depth+1+3*k+5<_;omega,by have:=r.un;show A.units+3+16*k+200<_;omega,r.gd⟩
theorem aCl{us:List BD}{kw:List (Str×BD)}:(A.under<|.builtin "type.__call__" ⟨.ref C::us,kw⟩).depth=A.depth+1:=by first|rfl|simp[Around.under,Code.weight,Code.isCreation,Code.isGuard,Code.isCaller,Code.frames,Code.isFrame,guardIds]
theorem aCg{us:List BD}{kw:List (Str×BD)}:(A.under<|.builtin "type.__call__" ⟨.ref C::us,kw⟩).units=A.units+1:=by first|rfl|simp[Around.under,Code.cUnits,Code.frames,Code.isFrame]
theorem Room.make{k:Nat}(r:Room (k+1) A)(C:BF)(us:List BD)(kw:List (Str×BD)):Room k (A.under<|.builtin "type.__call__" ⟨.ref C::us,kw⟩):=
 ⟨r.hd,by have:=r.dp;rw[aCl];omega,by have:=r.un;rw[aCg];omega,by rw[show(A.under<|.builtin "type.__call__" ⟨.ref C::us,kw⟩).guards=pushGuards (Code.builtin "type.__call__" ⟨.ref C::us,kw⟩).guards A.guards from rfl,r.gd];first|rfl|simp[Code.guards,Code.isGuard,guardIds,pushGuards]⟩
theorem Room.depth{k:Nat}(r:Room k A):A.depth<recursionLimit:=by have:=r.dp;omega
noncomputable def aFG:TA:=λ_ H Q=>Q [] H
noncomputable def nV(ta:TE)(tr:TA):TA:=λσ H Q=>ta σ H λx H1=>tr σ H1 λxs H2=>Q (x::xs) H2
variable {es:List Expr}{t:TA}
theorem pa_nil:PA X [] aFG:=λ_ _ _ _ H Q I h=>Calls.spliced_nil ⟨[],H,I,.nil,h⟩
theorem cY(ha:PE X e te)(hr:PA X es t)(hs:AB (e::es) X.env=(false,eval e X.env)::AB es X.env:=by rfl):PA X (e::es) (nV te t):=by intro pos pins s σ H Q I h;rw[hs];show AK _ _ (spliced ((false,eval e X.env)::Aa pos (AB es X.env))) _ _ s;refine Calls.spliced_cons<|thn (ha pins s σ H _ I h) λu s1 ⟨x,H1,I1,r1,q1⟩=> ?_;exact thn (hr pos pins s1 σ H1 _ I1 q1) λus s2 ⟨xs,H2,I2,r2,q2⟩=>⟨x::xs,H2,I2,.cons r1 r2,q2⟩
noncomputable def aPv(t:TA):TE:=λσ H Q=>t σ H λxs H1=>xs.length<=AM/\∀p,H1 p=none->Q (.ref p) (upd H1 p<|.tup xs)
noncomputable def tLst(t:TA):TE:=λσ H Q=>t σ H λxs H1=>xs.length<=AM/\∀p,H1 p=none->Q (.ref p) (upd H1 p<|.lst xs)
theorem aHA{x1}(h:PA X es t):PE X (.Tuple es x1 pos) (aPv t):=by intro pins s σ H Q I hq;refine wpAny_Tuple_spliced<|thn (h pos pins s σ H _ I hq) λus s1 ⟨xs,H1,I1,r,z,q⟩=>⟨by rw[<-r.length];exact z, ?_⟩;have hf:H1 s1.heap.objs.size=none:=I1.hok.fresh<|aJ _;refine⟨.ref s1.heap.objs.size,upd H1 s1.heap.objs.size<|.tup xs,I1.laid (t':=s1.toks) (λb u e=>aF _ e) (aJ _) ?_,rfl,q _ hf⟩;exact⟨z,us,r,IsTupD.new _ _⟩
theorem aMl(h:PA X es t):PE X (.List es pos) (tLst t):=by intro pins s σ H Q I hq;refine wpAny_List_spliced<|thn (h pos pins s σ H _ I hq) λus s1 ⟨xs,H1,I1,r,z,q⟩=>⟨by rw[<-r.length];exact z, ?_⟩;have hf:H1 s1.heap.objs.size=none:=I1.hok.fresh<|aJ _;refine⟨.ref s1.heap.objs.size,upd H1 s1.heap.objs.size<|.lst xs,I1.laid (t':=s1.toks) (λb u e=>aF _ e) (aJ _) ?_,rfl,q _ hf⟩;exact⟨z,us,0,r,bN _ rfl⟩
noncomputable abbrev Sp:=List V->Hp->VK->XK->Prop
noncomputable abbrev CXT:=List Env->Hp->BE->XK->BD->BE->Prop
structure Env0(P:AE)(w:AL)(K:aA)(mg:Str->Option BD)(base:BH)(A:BG)(outer:List Env)(s:BE)(H:Hp):Prop where
 frames:A.frames=some outer
 mod:Mod K mg base
 bs:∀b o,base.get? b=some o->s.heap.get? b=some o/\H b=none
 bsz:base.objs.size<=s.heap.objs.size
 funs:s.heap.FunFrames base outer
 frf:∀b∈frs outer,H b=none
 hok:HOk P w H s.heap
 bare:AllBare s.gens
def CE(outer:List Env)(P:AE)(w:AL)(H:Hp)(s:BE)(Q:VK)(u:BD)(s':BE):Prop:=
 ∃v H',s'.os=s.os/\AllBare s'.gens/\Un (frs outer) [] H H' s.heap s'.heap/\HOk P w H' s'.heap/\RelV v u/\Q v H'
def CR(CX:CXT)(outer:List Env)(P:AE)(w:AL)(H:Hp)(s:BE)(Q:VK)(E:XK)(r:Result)(s':BE):Prop:=
 match r with
 |.ok (.ret u)=>CE outer P w H s Q u s'
 |.ok _=>False
 |.error e=>CX outer H s E e s'
structure FnOk(P:AE)(w:AL)(K:aA)(mg:Str->Option BD)(base:BH)(CX:CXT)(k:Nat)(f:BF)(fd:AN)(ps:List Str)(sp:Sp):Prop where
 len:∀vs H Q E,sp vs H Q E->vs.length=ps.length
 run:∀ (A:BG) (outer:List Env) (s:BE) (H:Hp) (args:Args) (us:List BD) (vs:List V) (Q:VK) (E:XK),Room k A->Env0 P w K mg base A outer s H->BindsTo s fd args (ps.zip us)->Vals vs us->sp vs H Q E->
  Az (AG P w) A (.call (.ref f) args) (CR CX outer P w H s Q E) s
theorem Env0.make{mg:Str->Option BD}{base:BH}{outer:List Env}(e:Env0 P w K mg base A outer s H)(C:BF)(us:List BD)(kw:List (Str×BD)):
  Env0 P w K mg base (A.under<|.builtin "type.__call__" ⟨.ref C::us,kw⟩) outer s H:=⟨by first|exact e.frames|(simpa[Around.under,Code.envs,Code.isFrame,pushEnvs] using e.frames),e.mod,e.bs,e.bsz,e.funs,e.frf,e.hok,e.bare⟩
variable {s':BE}
theorem Inv.env0(I:Inv X pins σ H s):Env0 X.prog X.w X.K X.mg X.base X.A X.stack s H:=
 ⟨I.ok.frames,I.ok.mod,I.bs,cD I.ok.bsz I.sz,I.stack,I.stkFree,I.hok,I.bare⟩
theorem Inv.after{Q:VK}{u:BD}(I:Inv X pins σ H s)(h:CE X.stack X.prog X.w H s Q u s'):EP X pins σ Q u s':=by obtain⟨v,H',os,bare,un,hok,r,q⟩:=h;obtain⟨hh,g,d,t,os'⟩:=s';obtain rfl:os'=s.os:=os;exact⟨v,H',I.call (h':=hh) (g':=g) (d':=d) (t':=t) (ch:=[]) un hok bare (λb z=>absurd z<|by simp),r,q⟩
noncomputable def aLD(sp:Sp)(dvs:List V)(E:XK)(t:TA):TE:=λσ H Q=>t σ H λvs H1=>sp (vs++dvs) H1 Q E
noncomputable def aOR(C:BF)(sp:Sp)(dvs:List V)(E:XK)(t:TA):TE:=λσ H Q=>t σ H λvs H1=>∀x dx,H1 x=none->H1 dx=none->dx≠x->
 sp (.ref x::(vs++dvs)) (upd (upd H1 dx<|.own x) x<|.ins C dx []) (λv H2=>v=.non/\Q (.ref x) H2) E
def Binds(K:aA)(fd:AN)(ps:List Str)(ds:List BD):Prop:=
 ∀ (s:BE) (us:List BD),K.In s.heap->(us++ds).length=ps.length->BindsTo s fd ⟨us,[]⟩ (ps.zip<|us++ds)
theorem Binds.all{fd:AN}{ps:List Str}(h:∀us:List BD,us.length=ps.length->bindArgs fd ⟨us,[]⟩=pure (ps.zip us)):Binds K fd ps []:=λs us _ hl=>by rw[bG] at hl ⊢;exact .of_eq<|h us hl
def vA(CX:CXT)(X:Cx)(E:XK):Prop:=∀ (pins:List (BF×BI)) (σ:St) (H:Hp) (s:BE) (e:BD) (s':BE),Inv X pins σ H s->CX X.stack H s E e s'->X.xe e s'
variable {CX:CXT}{k:Nat}{f:BF}{fd:AN}{ps:List Str}{sp:Sp}{dvs:List V}{ds:List BD}{E:XK}{x m:Str}{p apos:Pos}
theorem aId{Q:VK}{us:List BD}{vs:List V}(F:FnOk X.prog X.w X.K X.mg X.base CX k f fd ps sp)(hr:Room k X.A)(hb:Binds X.K fd ps ds)(hd:Vals dvs ds)(hx:vA CX X E)
  (I:Inv X pins σ H s) (r:Vals vs us) (h:sp (vs++dvs) H Q E):AK (AG X.prog X.w) X.A (call (.ref f) us) (EP X pins σ Q) X.xe s:=by
 have r2:Vals (vs++dvs) (us++ds):=r.append hd;have hl:(us++ds).length=ps.length:=by rw[<-r2.length];exact F.len _ _ _ _ h
 refine wpAny_call<|Aj (F.run X.A X.stack s H ⟨us,[]⟩ (us++ds) (vs++dvs) Q E hr I.env0 (hb s us I.kIn hl) r2 h) λr s' hq=> ?_;cases r with
 |error e=>exact hx pins σ H s e s' I hq
 |ok fl=>
  cases fl with
  |ret u=>exact I.after hq
  |next=>exact False.elim hq
  |brk=>exact False.elim hq
  |cont=>exact False.elim hq
theorem zF(F:FnOk X.prog X.w X.K X.mg X.base CX k f fd ps sp)(hr:Room k X.A)(hg:Gl X x)(hm:X.mg x=some (.ref f))(hk:cG X.K (.ref f)=true)(hb:Binds X.K fd ps ds)(hd:Vals dvs ds)(hx:vA CX X E)
  (ha:PA X (e::es) t) (hdb:(x==("__debug__":Str))=false:=by decide) (he:AB (e::es) X.env=(false,eval e X.env)::AB es X.env:=by rfl) (hpl:(Aa pos<|AB es X.env).any (·.1)=false:=by rfl):
  PE X (.Call (.Name x p) (e::es) [] pos) (aLD sp dvs E t):=by
 intro pins s σ H Q I h;refine AR<|kN I hg hm ?_ hdb;refine eE (h₀:=X.base) I.ok.mod.kin hk (thn (ha pos pins s σ H _ I h) λus s1 ⟨vs,H1,I1,r,q⟩=>⟨I1.kIn, ?_⟩) he hpl;exact aId F hr hb hd hx I1 r q
structure Mk(K:aA)(C f:BF):Prop where
 makes:tE K C=true
 init:cA K (.ref C) "__init__"=some (some<|.ref f)
 fn:nA K (.ref f)=true
 kp:cG K (.ref C)=true
theorem aHf{Q:VK}{us:List BD}{vs:List V}(M:Mk X.K C f)(F:FnOk X.prog X.w X.K X.mg X.base CX k f fd ps sp)(hr:Room (k+1) X.A)(hb:Binds X.K fd ps ds)(hd:Vals dvs ds)
  (hx:vA CX X E) (I:Inv X pins σ H s) (r:Vals vs us)
  (h:∀x dx,H x=none->H dx=none->dx≠x->sp (.ref x::(vs++dvs)) (upd (upd H dx<|.own x) x<|.ins C dx []) (λv H2=>v=.non/\Q (.ref x) H2) E):
  AK (AG X.prog X.w) X.A (call (.ref C) us) (EP X pins σ Q) X.xe s:=by
 have hq:=h (s.heap.objs.size+1) s.heap.objs.size (I.hok.fresh<|gM _) (I.hok.fresh<|aJ _) (bQ<|gG _);have I2:=Inv.made (C:=C) I;have r2:Vals (V.ref (s.heap.objs.size+1)::(vs++dvs)) (Value.ref (s.heap.objs.size+1)::(us++ds)):=.cons rfl<|r.append hd
 have hl:(Value.ref (s.heap.objs.size+1)::us++ds).length=ps.length:=by have e:=r2.length;rw[F.len _ _ _ _ hq] at e;exact e.symm
 refine wpAny_call (aHk (f:=f) I.kIn M.makes M.init (beq_iff_eq.mp M.fn) (Aj (F.run _ X.stack _ _ ⟨Value.ref (s.heap.objs.size+1)::us,[]⟩ (Value.ref (s.heap.objs.size+1)::(us++ds)) _ _ E (hr.make C us [])
  (I2.env0.make C us []) (hb _ (Value.ref (s.heap.objs.size+1)::us) I2.kIn hl) r2 hq) λr s' hq'=> ?_))
 cases r with
 |error e=>exact hx pins σ _ _ e s' I2 hq'
 |ok fl=>
  cases fl with
  |ret u=>obtain⟨v,H',I3,rv,ev,q3⟩:=I2.after hq';subst ev;exact⟨rv,⟨V.ref<|s.heap.objs.size+1,H',I3,rfl,q3⟩⟩
  |next=>exact False.elim hq'
  |brk=>exact False.elim hq'
  |cont=>exact False.elim hq'
theorem aJD(M:Mk X.K C f)(F:FnOk X.prog X.w X.K X.mg X.base CX k f fd ps sp)(hr:Room (k+1) X.A)(hg:Gl X x)(hm:X.mg x=some (.ref C))(hb:Binds X.K fd ps ds)(hd:Vals dvs ds)(hx:vA CX X E)
  (ha:PA X (e::es) t) (hdb:(x==("__debug__":Str))=false:=by decide) (he:AB (e::es) X.env=(false,eval e X.env)::AB es X.env:=by rfl) (hpl:(Aa pos<|AB es X.env).any (·.1)=false:=by rfl):
  PE X (.Call (.Name x p) (e::es) [] pos) (aOR C sp dvs E t):=by
 intro pins s σ H Q I h;refine AR<|kN I hg hm ?_ hdb;refine eE (h₀:=X.base) I.ok.mod.kin M.kp (thn (ha pos pins s σ H _ I h) λus s1 ⟨vs,H1,I1,r,q⟩=>⟨I1.kIn, ?_⟩) he hpl;exact aHf M F hr hb hd hx I1 r q
section
variable {X:Cx}{CX:CXT}{k:Nat}{f C:BF}{fd:AN}{ps ks:List Str}{sp:Sp}{E:XK}{x m:Str}{p pos apos kpos:Pos}{e o:Expr}{es:List Expr}{kws:List Keyword}{te ta:TE}{t tk:TA}{nm:Option Str}
structure aPD(K:aA)(fd:AN)(ps ks:List Str)(g:List BD->List BD->List BD)(gV:List V->List V->List V):Prop where
 to:∀ (s:BE) (us ws:List BD),K.In s.heap->(g us ws).length=ps.length->BindsTo s fd ⟨us,ks.zip ws⟩ (ps.zip<|g us ws)
 rel:∀ {vs:List V}{us:List BD}{zs:List V}{ws:List BD},Vals vs us->Vals zs ws->Vals (gV vs zs) (g us ws)
variable {g:List BD->List BD->List BD}{gV:List V->List V->List V}
end
structure fK(N P:List Str)(sc:Scope):Prop where
 kind:sc.kind=.function
 co:sc.isCoroutine=false
 gen:sc.isGenerator=false
 nd:N.Nodup
 pre:N.take P.length=P
 par:∀x∈P,sc.names.lookup x=some .local\/sc.names.lookup x=some .cell
 nofree:∀y∈sc.names,y.2≠ .free
theorem yE{kindOf:Str->Option NameKind}{x:Str}:∀ {binds:List (Str×BD)}{m:Str->Option BD},(∀v,(x,v)∉binds)->bindL kindOf binds m x=m x
 |[],_,_=>rfl
 |(n,v)::r,m,h=>by
  unfold bindL;rw[yE λw hw=>h w<|aE _ hw]
  split
  ·have:x≠n:=by rintro rfl;exact h v aG
   simp[this]
  ·rfl
theorem yT{kindOf:Str->Option NameKind}{x:Str}:∀ {binds:List (Str×BD)}{m:Str->Option BD},(∀v,(x,v)∉binds)->bindC kindOf binds m x=m x
 |[],_,_=>rfl
 |(n,v)::r,m,h=>by
  unfold bindC;rw[yT λw hw=>h w<|aE _ hw]
  split
  ·rfl
  ·have:x≠n:=by rintro rfl;exact h v aG
   simp[this]
theorem yX{kindOf:Str->Option NameKind}{x:Str}{v:BD}:∀ {P:List Str}{vs:List BD}{i:Nat}{m:Str->Option BD},P.Nodup->P[i]? =some x->vs[i]? =some v->kindOf x=some .local->
  bindL kindOf (P.zip vs) m x=some v
 |[],_,_,_,_,h,_,_=>by simp at h
 |_::_,[],_,_,_,_,h,_=>by simp at h
 |p::P,w::vs,0,m,nd,h1,h2,hk=>by simp at h1 h2;subst h1;subst h2;show bindL kindOf ((p,w)::P.zip vs) m p=_;unfold bindL;rw[yE λv hv=>(bS.mp nd).1 (oE hv).1,if_pos hk];simp
 |p::P,w::vs,i+1,m,nd,h1,h2,hk=>by show bindL kindOf ((p,w)::P.zip vs) m x=_;unfold bindL;exact yX (i:=i) (bS.mp nd).2 (by simpa using h1) (by simpa using h2) hk
theorem yV{kindOf:Str->Option NameKind}{x:Str}{v:BD}:∀ {P:List Str}{vs:List BD}{i:Nat}{m:Str->Option BD},P.Nodup->P[i]? =some x->vs[i]? =some v->kindOf x≠some .local->
  bindC kindOf (P.zip vs) m x=some v
 |[],_,_,_,_,h,_,_=>by simp at h
 |_::_,[],_,_,_,_,h,_=>by simp at h
 |p::P,w::vs,0,m,nd,h1,h2,hk=>by simp at h1 h2;subst h1;subst h2;show bindC kindOf ((p,w)::P.zip vs) m p=_;unfold bindC;rw[yT λv hv=>(bS.mp nd).1 (oE hv).1,if_neg hk];simp
 |p::P,w::vs,i+1,m,nd,h1,h2,hk=>by show bindC kindOf ((p,w)::P.zip vs) m x=_;unfold bindC;exact yV (i:=i) (bS.mp nd).2 (by simpa using h1) (by simpa using h2) hk
noncomputable def start(N:List Str)(vs:List V):St:=vs.map some++eC (N.length-vs.length) none
noncomputable def jB(CX:CXT)(P:AE)(w:AL)(K:aA)(mg:Str->Option BD)(base:BH)(N:List Str)(qual:Str)(scope:Scope)(f:BF)(cd:BD)(A:BG)(outer:List Env)(s:BE)(H:Hp)(E:XK):Cx where
 prog:=P
 w:=w
 K:=K
 mg:=mg
 base:=base
 A:=A.deeper<|Ag qual scope s.heap.objs.size f cd
 N:=N
 s₀:=s
 H₀:=H
 env:=Ag qual scope s.heap.objs.size f cd
 outer:=outer
 stack:=Ag qual scope s.heap.objs.size f cd::outer
 ex:=[]
 calm:=true
 fn:=λ_=>true
 pn:=[]
 xe:=λe s'=>AK (AG P w) (A.deeper<|Ag qual scope s.heap.objs.size f cd) (leaving (Ag qual scope s.heap.objs.size f cd) e) (λ_ s''=>CX outer H s E e s'') (λe' s''=>CX outer H s E e' s'') s'
theorem aBF{sc:Scope}{n:Nat}(h:sc.names.lookup x=some .cell):∃c,(cellsFrom n sc.names []).lookup x=some c:=by have q:=nC sc.names n []<|.inl h;exact mD.mp q
theorem xZ{mg:Str->Option BD}{base:BH}{N:List Str}{qual:Str}{scope:Scope}{cd:BD}{outer:List Env}{s1:BE}{us:List BD}{vs:List V}
  (S:fK N ps scope) (hd:A.handled=none) (e0:Env0 P w K mg base A outer s H) (hl:vs.length=ps.length) (r:Vals vs us)
  (x:InCallC s s.heap.objs.size (bindL (Ag qual scope s.heap.objs.size f cd).kindOf (ps.zip us) λ_=>none) (cellsFrom (s.heap.objs.size+1) scope.names []) (bindC (Ag qual scope s.heap.objs.size f cd).kindOf (ps.zip us) λ_=>none) s1):
  Inv (jB CX P w K mg base N qual scope f cd A outer s H E) [] (start N vs) H s1:=by
 have hpl:ps.length<=N.length:=by have:=congrArg wY S.pre;rw[dH] at this;omega
 obtain⟨h1,tk,rfl,hk⟩:=x.done;have noA:∀b:BF,b∉(jB CX P w K mg base N qual scope f cd A outer s H E).ex:=λb z=>absurd (show b∈([]:List BF) from z)<|by simp
 refine ⟨⟨e0.mod,S.kind,rfl,rfl,aJ _,fun y z c h1 h2=> ?_,fun y hy=> ?_,fun y c _ h=> ?_,fun _=>hd,Around.frames_deeper e0.frames, .inr ⟨rfl,rfl⟩,fun b z=>absurd z (noA b),e0.bs,e0.bsz,fun b _ _=>noA b,fun b z=>absurd z (noA b),e0.funs,e0.frf⟩,
  rfl,e0.bare,Un.kept hk,⟨_,x.toInCall.ns,λi y v h1 h2 h3=> ?_⟩,λy c h=>⟨_,x.cell y c h⟩,e0.hok.fresh (aJ _),λy c h=> ?_,λp hp=>absurd (show p∈([]:List (BF×BI)) from hp) (by simp),e0.hok.kept hk, ?_⟩
 ·exact name_of_addr x.apart (PySem.mem_of_lookup h1)<|PySem.mem_of_lookup h2
 ·have hy:scope.names.lookup y=some .cell\/scope.names.lookup y=some .free:=hy
  rcases hy with hy|hy
  ·exact aBF hy
  ·exact absurd rfl (S.nofree _<|PySem.mem_of_lookup hy)
 ·exact dA (x.above y c<|PySem.mem_of_lookup h)
 ·have hi:i<vs.length:=by
   unfold start at h2
   by_cases hi:i<vs.length
   ·exact hi
   ·rw[fO<|by simpa using hi] at h2;rw[List.getElem?_replicate] at h2
    split at h2<;>cases h2
  have ha:vs[i]? =some v:=by
   unfold start at h2;rw[dX (by simpa using hi),aZ] at h2;cases e:vs[i]? with
   |none=>rw[e] at h2;cases h2
   |some a=>rw[e] at h2;cases h2;rfl
  obtain⟨u,hu,rv⟩:=r.get ha
  have hp:ps[i]? =some y:=by rw[<-S.pre,aAC<|by omega];exact h1
  have ndP:ps.Nodup:=by rw[<-S.pre];exact S.nd.sublist<|List.take_sublist _ _
  refine⟨u,rv, ?_⟩
  rcases S.par y (aY hp) with k|k
  ·exact .inl ⟨k,yX ndP hp hu k⟩
  ·obtain⟨c,e⟩:=aBF (n:=s.heap.objs.size+1) k;refine .inr ⟨.inl k,c,e, ?_⟩;have q:=x.cell y c e;rw[yV ndP hp hu<|by show scope.names.lookup y≠_;rw[k];decide] at q;exact q
 ·exact e0.hok.fresh<|dA (x.above y c<|PySem.mem_of_lookup h)
 ·unfold start;show _=N.length;rw[aN,aC,List.length_replicate];omega
theorem aFK{mg:Str->Option BD}{base:BH}{qual:Str}{params:Arguments}{body:List BJ}{scope:Scope}{dV kV doc pm cdv ct oc:BD}{an od:Option BF}
  {osl:Array (Option BD)}{N ps:List Str}{sp:Sp} (lk:K.lookup f=some ⟨oc,od,.func<|bY name qual params body scope dV kV doc pm an cdv ct,osl⟩) (hcd:eL K cdv qual=true) (S:fK N ps scope)
  (len:∀vs H Q E,sp vs H Q E->vs.length=ps.length)
  (hbody:∀ (A:BG) (outer:List Env) (s:BE) (H:Hp) (vs:List V) (Q:VK) (E:XK),Room k (A.deeper (Ag qual scope s.heap.objs.size f cdv))→sp vs H Q E→
   ∃t,PSs (jB CX P w K mg base N qual scope f cdv A outer s H E) body t/\t {nx:=λ_ H'=>Q .non H',rt:=Q} (start N vs) H):
  FnOk P w K mg base CX (k+1) f (bY name qual params body scope dV kV doc pm an cdv ct) ps sp:=by
 refine⟨len,λA outer s H args us vs Q E hr e0 hb r hsp=> ?_⟩;have hl:=len _ _ _ _ hsp;have KX:K.In s.heap:=e0.mod.kin.keeps λb o e=>(e0.bs b o e).1
 have lim:s.heap.NoLimit:=e0.mod.nolimit.keeps λb o e=>(e0.bs b o e).1
 have hkind:∀y∈ps.zip us,scope.names.lookup y.1=some .local\/(scope.names.lookup y.1=some .cell/\((cellsFrom (s.heap.objs.size+1) scope.names []).lookup y.1).isSome=true):=λ⟨n,v⟩ hy=>by
  rcases S.par n (oE hy).1 with q|q
  ·exact .inl q
  ·exact .inr ⟨q,nC _ _ _<|.inl q⟩
 refine codeAny_call_function hr.depth (KX _ _ lk) rfl S.co S.gen rfl (aCD KX hcd)<|hb _ _ _ _ ?_;refine wpAny_newFunctionEnv_cells S.kind hkind λenv he s1 x=> ?_
 subst he;refine⟨lim.keeps x.toInCall.keep,codeAny_func ?_⟩;obtain⟨t,ht,hq⟩:=hbody A outer s H vs Q E (hr.deeper _) hsp;have I:Inv (jB CX P w K mg base N qual scope f cdv A outer s H E) [] (start N vs) H s1:=xZ S hr.hd e0 hl r x;refine AX (ht [] s1 (start N vs) H _ I hq) (λfl s' hs=> ?_) λe s' hs=>hs
 have fin:∀ {σ':St}{H':Hp}{v:V}{u:BD},Inv (jB CX P w K mg base N qual scope f cdv A outer s H E) [] σ' H' s'->RelV v u->Q v H'->CE outer P w H s Q u s':=
  λ{σ' H' v u} J rv q=>⟨v,H',J.os,J.bare,J.base,J.hok,rv,q⟩
 cases fl with
 |ret u=>obtain⟨v,σ',H',J,rv,q⟩:=hs;exact fin J rv q
 |next=>obtain⟨σ',H',J,q⟩:=hs;exact fin (v:=V.non) (u:=Value.none) J rfl q
 |brk=>obtain⟨_,_,_,q⟩:=hs;exact False.elim q
 |cont=>obtain⟨_,_,_,q⟩:=hs;exact False.elim q
section
variable {X:Cx}{x:Str}{p pos:Pos}{e:Expr}{es:List Expr}{t:TA}{id T:String}{r:List V->Hp->VK->Prop}
noncomputable def tCB(r:List V->Hp->VK->Prop)(t:TA):TE:=λσ H Q=>t σ H λvs H1=>r vs H1 Q
theorem nJ(hc:mL X (.builtin id) r)(hg:Gl X x)(hm:X.mg x=none)(hv:Ai x=some (.builtin id))(ha:PA X (e::es) t)(hn:x≠"__name__":=by decide)(hdb:(x==("__debug__":Str))=false:=by decide)
  (he:AB (e::es) X.env=(false,eval e X.env)::AB es X.env:=by rfl) (hpl:(Aa pos<|AB es X.env).any (·.1)=false:=by rfl):PE X (.Call (.Name x p) (e::es) [] pos) (tCB r t):=by
 intro pins s σ H Q I h;refine AR<|lW I hg hm hv ?_ hn hdb;exact PyProof.Rows.callWith_builtin1 (thn (ha pos pins s σ H _ I h) λus s1 ⟨vs,H1,I1,r1,q1⟩=>hc pins s1 σ H1 vs us Q I1 r1 q1) he hpl
theorem aEu(hc:mL X (.type T) r)(hg:Gl X x)(hm:X.mg x=none)(hv:Ai x=some (.type T))(ha:PA X (e::es) t)(hn:x≠"__name__":=by decide)(hdb:(x==("__debug__":Str))=false:=by decide)
  (he:AB (e::es) X.env=(false,eval e X.env)::AB es X.env:=by rfl) (hpl:(Aa pos<|AB es X.env).any (·.1)=false:=by rfl):PE X (.Call (.Name x p) (e::es) [] pos) (tCB r t):=by
 intro pins s σ H Q I h;refine AR<|lW I hg hm hv ?_ hn hdb;exact PyProof.Rows.callWith_type1 (thn (ha pos pins s σ H _ I h) λus s1 ⟨vs,H1,I1,r1,q1⟩=>hc pins s1 σ H1 vs us Q I1 r1 q1) he hpl
end
end L2
namespace HT
open PySem PyProof.Rows
noncomputable def lexLt:List Int->List Int->Bool
 |[],[]=>false
 |[],_::_=>true
 |_::_,[]=>false
 |x::xs,y::ys=>if x=y then lexLt xs ys else decide (x<y)
section
open PySem.SeqAt
open PySem.AutoSeq1 (wpAny_loadPart')
open PySem.MeetsSeq PySem.MeetsSeq2 PySem.MeetsSeq3
end
variable {prog:AE}{w:AL}{A:BG}{E:BD->BE->Prop}{s:BE}
theorem cat_tup{t b:BF}{vs ws:List BD}{Q:BD->BE->Prop}(ht:IsTup s.heap t vs.toArray)(hb:IsTup s.heap b ws.toArray)(hv:vs≠[])
  (h1:ws=[]->Q (.ref t) s) (h2:ws≠[]->Q (.ref s.heap.objs.size) {s with heap:=s.heap.push {cls:=.type "tuple",data:=.seq (vs++ws).toArray}})
  (hsz:vs.length+ws.length<=AM):AK (AG prog w) A (Ao .Add (.ref t)<|.ref b) Q E s:=by
 obtain⟨⟨cls,dd,data,sl⟩,ho,hc,n,hd⟩:=id ht;obtain⟨⟨cls2,dd2,data2,sl2⟩,ho2,hc2,n2,hd2⟩:=id hb;simp only at hc hd hc2 hd2;subst hc hd hc2 hd2;have e:vs.toArray++ws.toArray=(vs++ws).toArray:=by simp
 by_cases hw:ws=[]
 ·exact concat_meets ⟨_,ho,rfl⟩ ⟨_,ho2,rfl⟩ noFill_tuple_add seq_tuple_add nD mP (mC _ _)
   (tuple_addW1 t b vs.toArray ws.toArray n n2 dd dd2 sl sl2 (by simpa using hv)<|by simp[hw]) ⟨ho,ho2,h1 hw⟩
 ·refine concat_meets ⟨_,ho,rfl⟩ ⟨_,ho2,rfl⟩ noFill_tuple_add seq_tuple_add nD mP (mC _ _)
   (tuple_addW2 t b vs.toArray ws.toArray n n2 dd dd2 sl sl2 (by simpa using hv) (by simpa using hw)<|by rw[bC,bC];exact hsz) ⟨ho,ho2, ?_⟩
  rw[e];exact h2 hw
noncomputable def sIx(n d:Nat):Option Int->Nat
 |none=>d
 |some v=>if v<0 then(v+(n:Int)).toNat else min v.toNat n
theorem sIx_none(n d:Nat):sIx n d none=d:=rfl
theorem sIx_nat(n d k:Nat):sIx n d (some (k:Int))=min k n:=by show(if(k:Int)<0 then((k:Int)+(n:Int)).toNat else min (k:Int).toNat n)=min k n;rw[if_neg<|by omega,dJ]
theorem aNo(n d:Nat)(hd:d<=n)(o:Option Int):sIx n d o<=n:=by
 cases o with
 |none=>exact hd
 |some v=>
  show(if v<0 then(v+(n:Int)).toNat else min v.toNat n)<=n
  by_cases hv:v<0
  ·rw[if_pos hv];omega
  ·rw[if_neg hv];exact Nat.min_le_right _ _
theorem aEc(v:Int)(n d:Nat):(if v<0 then max (v+(n:Int)) 0 else min v (n:Int))=((sIx n d (some v):Nat):Int):=by
 show(if v<0 then max (v+(n:Int)) 0 else min v (n:Int))=(((if v<0 then(v+(n:Int)).toNat else min v.toNat n):Nat):Int)
 by_cases hv:v<0
 ·simp only[if_pos hv];omega
 ·simp only[if_neg hv];omega
theorem aBL(lo hi:Option Int)(n:Nat):Builtin.Slice.sliceAdjust lo hi 1 (n:Int)=(((sIx n 0 lo:Nat):Int),((sIx n n hi:Nat):Int)):=by
 have h1:¬ ((1:Int)<0):=by omega
 unfold Builtin.Slice.sliceAdjust;simp only[h1,if_false];refine Prod.ext ?_ ?_
 ·cases lo with
  |none=>rfl
  |some v=>exact aEc v n 0
 ·cases hi with
  |none=>rfl
  |some v=>exact aEc v n n
theorem aCn(i j:Nat):Builtin.Slice.slicePlaces (i:Int) (j:Int) 1=j-i:=by
 unfold Builtin.Slice.slicePlaces;have h1:(1:Int)>0:=by omega
 simp only[h1,if_true,Int.ediv_one]
 split<;>omega
theorem vX{v:BD}{o:Option Int}{Q:Option Int->BE->Prop}(p:IsPart v o)(h:Q o s):AK (AG prog w) A (Builtin.Slice.slicePartIndex v) Q E s:=by
 cases p with
 |none=>exact slicePart_none h
 |int i t=>exact slicePart_int h
theorem sliceApplied_gen{sl:BF}{vl vu:BD}{lo hi:Option Int}{n:Nat}{Q:Int×Int×Nat->BE->Prop}(hs:s.heap.IsSliceOf sl vl vu .none)(pl:IsPart vl lo)(pu:IsPart vu hi)
  (h:Q (((sIx n 0 lo:Nat):Int),1,sIx n n hi-sIx n 0 lo) s):AK (AG prog w) A (Builtin.Slice.sliceApplied (.ref sl)<|pure (n:Int)) Q E s:=by
 obtain⟨os,hos,hcs,hds⟩:=id hs;unfold Builtin.Slice.sliceApplied Builtin.Slice.sliceFields;refine AA<|AA (wpAny_field hos hds (x:=vl) rfl<|AA (wpAny_field hos hds (x:=vu) rfl<|AA (wpAny_field hos hds (x:=.none) rfl<|AC ?_)));refine AA<|slicePart_none ?_;show AK _ _ (if((1:Int)==0)=true then _ else _) _ _ s;rw[if_neg<|by decide];refine AA<|vX pl (AA<|vX pu (AA<|AC ?_));show AK _ _ (match Builtin.Slice.sliceAdjust lo hi 1 (n:Int) with|(lo,hi)=>pure (lo,(1:Int),Builtin.Slice.slicePlaces lo hi 1)) _ _ s;rw[aBL lo hi n];show AK _ _ (pure (((sIx n 0 lo:Nat):Int),(1:Int),Builtin.Slice.slicePlaces ((sIx n 0 lo:Nat):Int) ((sIx n n hi:Nat):Int) 1)) _ _ s;rw[aCn];exact AC h
theorem aFW(xs:Array BD)(i k:Nat):((bR k).filterMap λ(m:Nat)=>xs[((i:Int)+(m:Int)*1).toNat]?).toArray=((xs.toList.drop i).take k).toArray:=by
 have e:(λ(m:Nat)=>xs[((i:Int)+(m:Int)*1).toNat]?)=λm=>xs[i+m]? :=by
  funext m;have:((i:Int)+(m:Int)*1).toNat=i+m:=by omega
  rw[this]
 rw[e];have:=pick_run xs i k;rw[List.filterMap_map] at this;have e2:((λx=>xs[x]?) ∘ λx=>i+x)=λm=>xs[i+m]? :=rfl
 rw[e2] at this;rw[this]
theorem getItem_tuple_cut{t sl:BF}{items:Array BD}{vl vu:BD}{lo hi:Option Int}{Q:BD->BE->Prop}(ht:IsTup s.heap t items)(hs:s.heap.IsSliceOf sl vl vu .none)(pl:IsPart vl lo)(pu:IsPart vu hi)
  (hw:¬ (sIx items.size 0 lo=0/\sIx items.size items.size hi=items.size))
  (h:Q (.ref s.heap.objs.size) {s with heap:=s.heap.push {cls:=.type "tuple",data:=.seq ((items.toList.drop<|sIx items.size 0 lo).take<|sIx items.size items.size hi-sIx items.size 0 lo).toArray}})
  (hsz:items.size<=AM):AK (AG prog w) A (getItem (.ref t)<|.ref sl) Q E s:=by
 have htake:sizeOk (.seq ((items.toList.drop<|sIx items.size 0 lo).take<|sIx items.size items.size hi-sIx items.size 0 lo).toArray):=by show((items.toList.drop<|sIx items.size 0 lo).take<|sIx items.size items.size hi-sIx items.size 0 lo).toArray.size<=AM;rw[bC,dH,fM,cO];omega
 have hj:sIx items.size items.size hi<=items.size:=aNo _ _ (aJ _) hi;obtain⟨os,hos,hcs,hds⟩:=id hs;have hTs:s.TypeIs (.ref sl) "slice":=⟨os,hos,hcs⟩;unfold getItem
 try with_reducible refine Ak ?_
 first|refine AA (AC ?_)|skip
 refine AA<|wpAny_sequenceKey ht.typeIs (by decide) ?_
 refine AA (Am (name:=Str.ofString "__getitem__") ht.typeIs PyProof.Rows.slot_tuple_getitem
  (As PyProof.Rows.slot_tuple_getitem ht.typeIs entry_tuple_getitem ?_ (args_tuple_getitem _ _)))
 show AK _ _ (Builtin.Tuple.tupleItemsOf (.ref t)>>=_) _ _ s;refine AA<|tupleItemsOf_ ht ?_;refine AA<|wpAny_typeOf hTs ?_;rw[if_pos<|by decide];refine AA<|sliceApplied_gen hs pl pu ?_
 have hno:¬ ((((sIx items.size 0 lo:Nat):Int)==0&&(1:Int)==1&&(sIx items.size items.size hi-sIx items.size 0 lo)==items.size)=true):=by intro q;rw[bO,bO] at q;have q1:((sIx items.size 0 lo:Nat):Int)=0:=eq_of_beq q.1.1;have q2:sIx items.size items.size hi-sIx items.size 0 lo=items.size:=eq_of_beq q.2;exact hw ⟨by omega,by omega⟩
 show AK _ _ (if(((sIx items.size 0 lo:Nat):Int)==0&&(1:Int)==1&&(sIx items.size items.size hi-sIx items.size 0 lo)==items.size)=true then _ else _) _ _ s;rw[if_neg hno,aFW]
 first
  |exact AA (m:=Builtin.Tuple.tupleExact _) (AV (AC ⟨_,rfl,AC h⟩) htake)
  |exact AA (m:=Builtin.Tuple.tupleExact _) (AV (AA (AC<|AC ⟨_,rfl,AC h⟩)) htake)
  |exact AA (AA (m:=Builtin.Tuple.tupleExact _)<|AV (AC<|AC ⟨_,rfl,AC h⟩) htake)
  |exact AA (AA (m:=Builtin.Tuple.tupleExact _)<|AV (AC ⟨_,rfl,AC h⟩) htake)
end HT
namespace L2
open PySem PySem.Spec PyProof.Rows
noncomputable abbrev TO:=St->Hp->(Option Int->Hp->Prop)->Prop
def PO(X:Cx)(e:Option Expr)(t:TO):Prop:=
 ∀ (pins:List (BF×BI)) (s:BE) (σ:St) (H:Hp) (Q:Option Int->Hp->Prop),Inv X pins σ H s->t σ H Q->
  AK (AG X.prog X.w) X.A (evalPart e X.env) (λu s'=>∃o H',Inv X pins σ H' s'/\IsPart u o/\Q o H') X.xe s
noncomputable def aKL:TO:=λ_ H Q=>Q none H
noncomputable def aOA(t:TE):TO:=λσ H Q=>t σ H λx H1=>∃i,x=.int i/\Q (some i) H1
variable {X:Cx}{e:Expr}{te:TE}{lo hi:Option Expr}{tl th:TO}{pos p2:Pos}
theorem aKt:PO X none aKL:=by intro pins s σ H Q I h;rw[evalPart_none];exact AC ⟨none,H,I,.none,h⟩
theorem aJf(h:PE X e te):PO X (some e) (aOA te):=by
 intro pins s σ H Q I hw;rw[evalPart_some];refine thn (h pins s σ H _ I hw) λu s1 ⟨x,H1,I1,r1,q1⟩=> ?_
 obtain⟨i,rfl,q⟩:=q1;obtain⟨t,rfl⟩:=r1;exact⟨some i,H1,I1,.int i t,q⟩
def SlR(X:Cx)(r:V->Option Int->Option Int->Hp->VK->Prop):Prop:=
 ∀ (pins:List (BF×BI)) (s:BE) (σ:St) (H:Hp) (x:V) (v vl vu:BD) (lo hi:Option Int) (sl:BF) (Q:VK),Inv X pins σ H s->RelV x v->s.heap.IsSliceOf sl vl vu .none->IsPart vl lo->IsPart vu hi->r x lo hi H Q->
  ∃T id,typeLookup (.type T) "__getitem__"=pure (some<|.builtin id)/\s.TypeIs v T/\AK (AG X.prog X.w) X.A (getItem v<|.ref sl) (EP X pins σ Q) X.xe s
noncomputable def tSl(r:V->Option Int->Option Int->Hp->VK->Prop)(te:TE)(tl th:TO):TE:=λσ H Q=>te σ H λx H1=>tl σ H1 λl H2=>th σ H2 λu H3=>r x l u H3 Q
theorem aBq{r:V->Option Int->Option Int->Hp->VK->Prop}(hr:SlR X r)(he:PE X e te)(hl:PO X lo tl)(hu:PO X hi th):PE X (.Subscript e (.Slice lo hi none p2) pos) (tSl r te tl th):=by
 intro pins s σ H Q I h;refine Subscript_<|thn (he pins s σ H _ I h) λv s1 ⟨x,H1,I1,r1,q1⟩=> ?_;refine wpAny_Slice<|thn (hl pins s1 σ H1 _ I1 q1) λvl s2 ⟨l,H2,I2,pl,q2⟩=>thn (hu pins s2 σ H2 _ I2 q2) λvu s3 ⟨u,H3,I3,pu,q3⟩=> ?_;rw[evalPart_none];refine AC ?_;have I4:Inv X pins σ H3 {s3 with heap:=s3.heap.push {cls:=.type "slice",data:=.fields #[vl,vu,.none]}}:=I3.kept (t':=s3.toks) λb ob q=>aF _ q
 obtain⟨T,id,hT,ht,hg⟩:=hr pins {s3 with heap:=s3.heap.push {cls:=.type "slice",data:=.fields #[vl,vu,.none]}} σ H3 x v vl vu l u s3.heap.objs.size Q I4 r1 (Heap.IsSliceOf.new ..) pl pu q3;show AK (AG X.prog X.w) X.A (subscriptTail e (.Slice lo hi none p2) v<|.ref s3.heap.objs.size) (EP X pins σ Q) X.xe {s3 with heap:=s3.heap.push {cls:=.type "slice",data:=.fields #[vl,vu,.none]}};exact tail_any (ops:=[.ref s3.heap.objs.size,v]) ht hT hg (by with_unfolding_all rfl)
noncomputable def aII(xs:List V)(lo hi:Option Int):List V:=(xs.drop<|HT.sIx xs.length 0 lo).take<|HT.sIx xs.length xs.length hi-HT.sIx xs.length 0 lo
theorem aAv(xs:List V)(lo hi:Option Int):(aII xs lo hi).length<=xs.length:=by unfold aII;rw[dH,fM];omega
def rSlT(K:aA):V->Option Int->Option Int->Hp->VK->Prop:=λx lo hi H Q=>∃a xs,x=.ref a/\SqT K H a xs/\
 ¬ (HT.sIx xs.length 0 lo=0/\HT.sIx xs.length xs.length hi=xs.length)/\∀p,H p=none->Q (.ref p) (upd H p (.tup<|aII xs lo hi))
theorem aMi:SlR X (rSlT X.K):=by
 intro pins s σ H x v vl vu lo hi sl Q I rx hs pl pu h;obtain⟨a,xs,rfl,hx,hw,q⟩:=h;cases rx;obtain⟨its,r,ht,hz⟩:=I.tuple hx;have hlen:its.toArray.size=xs.length:=by rw[bC];exact r.length.symm
 refine⟨"tuple",_,PyProof.Rows.slot_tuple_getitem.lookup,ht.typeIs, ?_⟩;refine HT.getItem_tuple_cut ht hs pl pu (by rw[hlen];exact hw) ?_ (by rw[hlen];exact hz);rw[hlen];refine⟨.ref s.heap.objs.size,_,I.laid (t':=s.toks) (o:=.tup<|aII xs lo hi) (λb ob q=>aF _ q) (aJ _) ?_,rfl,q _ (I.hok.fresh<|aJ _)⟩;exact⟨cD (aAv xs lo hi) hz,_,(r.drop<|HT.sIx xs.length 0 lo).take<|HT.sIx xs.length xs.length hi-HT.sIx xs.length 0 lo,IsTupD.new _ _⟩
noncomputable def aOE(K:aA):R2:=λx y H Q=>∃a b xs ys,x=.ref a/\y=.ref b/\SqT K H a xs/\SqT K H b ys/\xs≠[]/\xs.length+ys.length<=AM/\
 (ys=[]->Q (.ref a) H)/\(ys≠[]->∀p,H p=none->Q (.ref p) (upd H p (.tup<|xs++ys)))
theorem Vals.nil_iff{xs:List V}{us:List BD}(r:Vals xs us):us=[]↔xs=[]:=by
 cases r with
 |nil=>simp
 |cons _ _=>simp
theorem aKs:OpR X (Ao .Add) (aOE X.K):=by intro pins s σ H x y v u Q I rx ry h;obtain⟨a,b,xs,ys,rfl,rfl,ha,hb,hx,hz,q1,q2⟩:=h;cases rx;cases ry;obtain⟨its,r1,p1,_⟩:=I.tuple ha;obtain⟨its2,r2,p2,_⟩:=I.tuple hb;refine HT.cat_tup p1 p2 (λz=>hx<|r1.nil_iff.mp z) (λz=>⟨.ref a,H,I,rfl,q1<|r2.nil_iff.mp z⟩) (λz=> ?_) (by rw[<-r1.length,<-r2.length];exact hz);refine⟨.ref s.heap.objs.size,_,I.laid (t':=s.toks) (o:=.tup<|xs++ys) (λb ob q=>aF _ q) (aJ _) ?_,rfl,q2 (λw=>z<|r2.nil_iff.mpr w) _ (I.hok.fresh<|aJ _)⟩;exact⟨by rw[aN];exact hz,_,r1.append r2,IsTupD.new _ _⟩
noncomputable def ixN(n:Nat)(i:Int):Option Nat:=if 0<=i then(if i<n then some i.toNat else none) else if -(n:Int)<=i then some (i+n).toNat else none
noncomputable def atI{α:Type}(xs:List α)(i:Int):Option α:=(ixN xs.length i).bind λj=>xs[j]?
theorem aKM{n:Nat}{i:Int}{j:Nat}(h:ixN n i=some j):seqIndex? i n=some j/\j<n/\ -(n:Int)<=i/\i<n:=by
 unfold ixN at h
 by_cases h0:0<=i
 ·rw[if_pos h0] at h
  by_cases h1:i<n
  ·rw[if_pos h1] at h;have e:i.toNat=j:=bM.inj h;exact⟨by rw[seqIndex_of h0 h1,e],by omega,by omega,h1⟩
  ·rw[if_neg h1] at h;cases h
 ·rw[if_neg h0] at h
  by_cases h1: -(n:Int)<=i
  ·rw[if_pos h1] at h;have e:(i+n).toNat=j:=bM.inj h;exact⟨by rw[seqIndex_neg (by omega) h1,e],by omega,h1,by omega⟩
  ·rw[if_neg h1] at h;cases h
theorem aDZ{α:Type}{xs:List α}{i:Int}{v:α}(h:atI xs i=some v):∃j,seqIndex? i xs.length=some j/\xs[j]? =some v/\j<xs.length/\ -(xs.length:Int)<=i/\i<xs.length:=by
 unfold atI at h;cases e:ixN xs.length i with
 |none=>rw[e] at h;cases h
 |some j=>rw[e] at h;obtain⟨h1,h2,h3,h4⟩:=aKM e;exact⟨j,h1,h,h2,h3,h4⟩
theorem zP{α:Type}{xs:List α}{j:Nat}{v:α}(h:xs[j]? =some v):atI xs (j:Int)=some v:=by
 have hj:j<xs.length:=(aD.mp h).1
 have e:ixN xs.length (j:Int)=some j:=by unfold ixN;rw[if_pos<|by omega,if_pos<|by omega];simp
 unfold atI;rw[e];exact h
def oU(b:Expr):Prop:=∀o i,subscripted b false o i=operate [o,i] (getItem o i)
def IxR(X:Cx)(r:R2):Prop:=
 ∀ (value slice:Expr) (pins:List (BF×BI)) (s:BE) (σ:St) (H:Hp) (x y:V) (v u:BD) (Q:VK),Inv X pins σ H s->RelV x v->RelV y u->r x y H Q->
  subscripted slice false v u=operate [v,u] (getItem v u)->AK (AG X.prog X.w) X.A (subscriptTail value slice v u) (EP X pins σ Q) X.xe s
def MtR(X:Cx)(id:String)(r:V->List V->Hp->VK->Prop):Prop:=
 ∀ (pins:List (BF×BI)) (s:BE) (σ:St) (H:Hp) (x:V) (xs:List V) (v:BD) (us:List BD) (Q:VK),Inv X pins σ H s->RelV x v->Vals xs us->r x xs H Q->
  AK (AG X.prog X.w) X.A (call (.builtin id) (v::us)) (EP X pins σ Q) X.xe s
section
variable {X:Cx}{a b:Expr}{ta tb:TE}{pos:Pos}
theorem aIS{r:R2}(hr:IxR X r)(ha:PE X a ta)(hb:PE X b tb)(hs:oU b):PE X (.Subscript a b pos) (tOp r ta tb):=by intro pins s σ H Q I h;exact Subscript_ (aNW ha hb I h λv u s2 x y H2 I2 rx ry q=>hr a b pins s2 σ H2 x y v u Q I2 rx ry q<|hs _ _)
noncomputable def rIxL(K:aA):R2:=λx y H Q=>∃p xs i v,x=.ref p/\y=.int i/\SqL K H p xs/\atI xs i=some v/\Q v H
noncomputable def rIxT(K:aA):R2:=λx y H Q=>∃p xs i v,x=.ref p/\y=.int i/\SqT K H p xs/\atI xs i=some v/\Q v H
theorem aDW:IxR X (rIxL X.K):=by
 intro value slice pins s σ H x y v u Q I rx ry h hs;obtain⟨p,xs,i,z,rfl,rfl,hq,he,q⟩:=h;cases rx;obtain⟨t,rfl⟩:=ry;obtain⟨its,r,pl,hz⟩:=I.list hq;obtain⟨j,h1,h2,h3,h4,h5⟩:=aDZ he;obtain⟨w,ew,rw'⟩:=r.get h2;have hl:=r.length;have hn:=aCO;have fin:EP X pins σ Q w s:=⟨z,H,I,rw',q⟩
 by_cases h0:0<=i
 ·have hj:i.toNat=j:=by rw[seqIndex_of h0 h5] at h1;exact bM.inj h1
  exact item_listR pl.isList h0 (by omega) (by rw[hj];simpa using ew) fin hs
 ·have hj:(i+(its.toArray.size:Int)).toNat=j:=by rw[seqIndex_neg (by omega) h4] at h1;rw[bC,<-hl];exact bM.inj h1
  exact subscriptTail_builtinR (x:=w) pl.isList.typeIs slot_list_getitem.lookup
   (wpAny_getItem_list_neg (Q:=λr s'=>r=w/\EP X pins σ Q r s') pl.isList (by omega) (by rw[bC]<;>omega) (by omega) (by rw[hj];simpa using ew) ⟨rfl,fin⟩) hs
theorem aNB:IxR X (rIxT X.K):=by
 intro value slice pins s σ H x y v u Q I rx ry h hs;obtain⟨p,xs,i,z,rfl,rfl,hq,he,q⟩:=h;cases rx;obtain⟨t,rfl⟩:=ry;obtain⟨its,r,pl,hz⟩:=I.tuple hq;obtain⟨j,h1,h2,h3,h4,h5⟩:=aDZ he;obtain⟨w,ew,rw'⟩:=r.get h2;have hl:=r.length;have hn:=aCO;have fin:EP X pins σ Q w s:=⟨z,H,I,rw',q⟩
 exact subscriptTail_builtinR (x:=w) pl.typeIs slot_tuple_getitem.lookup
  (getItem_tuple (j:=j) (Q:=λr s'=>r=w/\EP X pins σ Q r s') pl (by omega) (by omega) (by rw[bC,<-hl];exact h1) (by simpa using ew) ⟨rfl,fin⟩) hs
noncomputable def nF:V->Bool
 |.non=>true
 |.bl _=>true
 |.int _=>true
 |.str _=>true
 |_=>false
noncomputable def eqV:V->V->Bool
 |.non,.non=>true
 |.bl a,.bl b=>a==b
 |.bl a,.int b=>(if a then 1 else 0)==b
 |.int a,.bl b=>a==(if b then 1 else 0)
 |.int a,.int b=>a==b
 |.str a,.str b=>a==b
 |_,_=>false
theorem wC{A:BG}{s:BE}{y x:V}{u v:BD}(ry:RelV y u)(rx:RelV x v)(fy:nF y=true)(fx:nF x=true):SeqAt.EqAt A s u v (eqV y x):=by
 cases y with
 |non=>
  cases ry;cases x with
  |non=>cases rx;exact SeqAt.EqAt.same _
  |bl b=>cases rx;exact SeqAt.EqAt.none_bool b
  |int b=>obtain⟨t,rfl⟩:=rx;exact SeqAt.EqAt.none_int b t
  |str b=>obtain⟨t,rfl⟩:=rx;exact SeqAt.EqAt.none_str b t
  |_=>exact absurd (show false=true from fx) bH
 |bl a=>
  cases ry;cases x with
  |non=>cases rx;exact SeqAt.EqAt.bool_none a
  |bl b=>cases rx;exact SeqAt.EqAt.bool_bool a b
  |int b=>obtain⟨t,rfl⟩:=rx;exact SeqAt.EqAt.bool_int a b t
  |str b=>obtain⟨t,rfl⟩:=rx;exact SeqAt.EqAt.bool_str a b t
  |_=>exact absurd (show false=true from fx) bH
 |int a=>
  obtain⟨t',rfl⟩:=ry;cases x with
  |non=>cases rx;exact SeqAt.EqAt.int_none a t'
  |bl b=>cases rx;exact SeqAt.EqAt.int_bool a t' b
  |int b=>obtain⟨t,rfl⟩:=rx;exact SeqAt.EqAt.int_int a t' b t
  |str b=>obtain⟨t,rfl⟩:=rx;exact SeqAt.EqAt.int_str a t' b t
  |_=>exact absurd (show false=true from fx) bH
 |str a=>
  obtain⟨t',rfl⟩:=ry;cases x with
  |non=>cases rx;exact SeqAt.EqAt.str_none a t'
  |bl b=>cases rx;exact SeqAt.EqAt.str_bool a t' b
  |int b=>obtain⟨t,rfl⟩:=rx;exact SeqAt.EqAt.str_int a t' b t
  |str b=>obtain⟨t,rfl⟩:=rx;exact SeqAt.EqAt.str_str a t' b t
  |_=>exact absurd (show false=true from fx) bH
 |_=>exact absurd (show false=true from fy) bH
noncomputable def eqU(x:V)(u:BD):Bool:=match u with
 |.none=>eqV .non x
 |.bool b=>eqV (.bl b) x
 |.int i _=>eqV (.int i) x
 |.str z _=>eqV (.str z) x
 |_=>false
theorem aHW{x y:V}{u:BD}(r:RelV y u)(f:nF y=true):eqU x u=eqV y x:=by
 cases y with
 |non=>cases r;rfl
 |bl b=>cases r;rfl
 |int i=>obtain⟨t,rfl⟩:=r;rfl
 |str z=>obtain⟨t,rfl⟩:=r;rfl
 |_=>exact absurd (show false=true from f) bH
theorem zM{x:V}:∀ {xs:List V}{us:List BD},Vals xs us->xs.all nF=true->us.any (eqU x)=xs.any λy=>eqV y x
 |_,_,.nil,_=>rfl
 |y::xs,u::us,.cons r t,f=>by rw[aNR,bO] at f;rw[kC,kC,aHW r f.1,zM t f.2]
theorem wH{A:BG}{s:BE}{x:V}{v:BD}(rx:RelV x v)(fx:nF x=true):∀ {xs:List V}{us:List BD},Vals xs us->xs.all nF=true->∀u∈us,SeqAt.EqAt A s u v (eqU x u)
 |_,_,.nil,_=>λu hu=>by cases hu
 |y::xs,u::us,.cons r t,f=>λu' hu=>by
  rw[aNR,bO] at f
  rcases bA.mp hu with rfl|hu
  ·rw[aHW r f.1];exact wC r rx f.1 fx
  ·exact wH rx fx t f.2 u' hu
noncomputable def inV(x:V)(xs:List V):Bool:=xs.any λy=>eqV y x
noncomputable def rIn(K:aA)(neg:Bool):R2:=λx y H Q=>∃p xs,y=.ref p/\(SqL K H p xs\/SqT K H p xs)/\nF x=true/\xs.all nF=true/\Q (.bl (if neg then !inV x xs else inV x xs)) H
theorem aFn:OpR X (AW .In) (rIn X.K false):=by
 intro pins s σ H x y v u Q I rx ry h;obtain⟨p,xs,rfl,hq,fx,fs,q⟩:=h;cases ry
 rcases hq with hq|hq
 ·obtain⟨its,r,pl,hz⟩:=I.list hq;refine SeqAt.in_listAt (eqU x) pl.isList (λw hw=>wH rx fx r fs w<|by simpa using hw) ⟨.bl _,H,I,rfl, ?_⟩;rw[show its.toArray.any (eqU x)=its.any (eqU x) by simp,zM r fs];exact q
 ·obtain⟨its,r,pl,hz⟩:=I.tuple hq;refine SeqAt.in_tupleAt (eqU x) pl (λw hw=>wH rx fx r fs w<|by simpa using hw) ⟨.bl _,H,I,rfl, ?_⟩;rw[show its.toArray.any (eqU x)=its.any (eqU x) by simp,zM r fs];exact q
theorem mS:mL X (.builtin "len") (λxs H Q=>∃p ys,xs=[.ref p]/\(SqL X.K H p ys\/SqT X.K H p ys)/\Q (.int ys.length) H):=by
 intro pins s σ H xs us Q I r h;obtain⟨p,ys,rfl,hq,q⟩:=h;obtain⟨u,rfl,rx⟩:=pG r;cases rx;have hn:=aCO
 rcases hq with hq|hq
 ·obtain⟨its,r',pl,hz⟩:=I.list hq;have hlen:=r'.length;exact Calls.call_len_list pl.isList (by simp only[bC]<;>omega) ⟨.int ys.length,H,I.tok _,⟨s.toks+1,by rw[bC,hlen]⟩,q⟩
 ·obtain⟨its,r',pl,hz⟩:=I.tuple hq;have hlen:=r'.length;exact len_tuple pl (by simp only[bC]<;>omega) ⟨.int ys.length,H,I.tok _,⟨s.toks+1,by rw[bC,hlen]⟩,q⟩
theorem aAa:mL X (.type "list") (λxs H Q=>∃p ys,xs=[.ref p]/\(SqL X.K H p ys\/SqT X.K H p ys)/\∀l,H l=none->Q (.ref l) (upd H l<|.lst ys)):=by
 intro pins s σ H xs us Q I r h;obtain⟨p,ys,rfl,hq,q⟩:=h;obtain⟨u,rfl,rx⟩:=pG r;cases rx
 have fin:∀ (its:List BD),Vals ys its->ys.length<=AM->∀ (h':BH) (c':Nat),(∀b o',s.heap.get? b=some o'->h'.get? b=some o')->
   h'.get? s.heap.objs.size=some {cls:=.type "list",dict:=none,data:=.seq its.toArray c',slots:= #[]}->EP X pins σ Q (.ref s.heap.objs.size) {s with heap:=h'}:=λits r' hz h' c' kp e=>
  ⟨.ref s.heap.objs.size,_,I.laid (t':=s.toks) kp (aJ _) (show ObjOk X.prog X.w _ h' _ (.lst ys) from⟨hz,its,c',r',e⟩),rfl,q _ (I.hok.fresh<|aJ _)⟩
 rcases hq with hq|hq
 ·obtain⟨its,r',pl,hz⟩:=I.list hq;have hlen:=r'.length;obtain⟨o,ho,hc,n,hd⟩:=pl.isList;exact call_list_seq p (.inl rfl) ho hc hd (λh' c' kp e=>fin its r' hz h' c' kp e) (by simp only[bC]<;>omega)
 ·obtain⟨its,r',pl,hz⟩:=I.tuple hq;have hlen:=r'.length;obtain⟨o,ho,hc,n,hd⟩:=pl;exact call_list_seq p (.inr rfl) ho hc hd (λh' c' kp e=>fin its r' hz h' c' kp e) (by simp only[bC]<;>omega)
theorem xI:mL X (.type "tuple") (λxs H Q=>∃p ys,xs=[.ref p]/\((SqL X.K H p ys/\∀l,H l=none->Q (.ref l) (upd H l<|.tup ys))\/(SqT X.K H p ys/\Q (.ref p) H))):=by
 intro pins s σ H xs us Q I r h;obtain⟨p,ys,rfl,h⟩:=h;obtain⟨u,rfl,rx⟩:=pG r;cases rx
 rcases h with⟨hq,q⟩|⟨hq,q⟩
 ·obtain⟨its,r',pl,hz⟩:=I.list hq;have hlen:=r'.length;refine call_tuple_list pl.isList (λh' kp=> ?_) (by simp only[bC]<;>omega);have I1:Inv X pins σ H {s with heap:=h'}:=I.kept (t':=s.toks) kp
  have I2:Inv X pins σ (upd H h'.objs.size<|.tup ys) {s with heap:=h'.push {cls:=.type "tuple",data:=.seq its.toArray}}:=
   I1.laid (t':=s.toks) (λb o e=>aF _ e) (aJ _) (show ObjOk X.prog X.w _ _ _ (.tup ys) from⟨hz,its,r',IsTupD.new _ _⟩)
  exact⟨.ref h'.objs.size,_,I2,rfl,q _ (I1.hok.fresh<|aJ _)⟩
 ·obtain⟨its,r',pl,hz⟩:=I.tuple hq;exact call_tuple_same pl ⟨.ref p,H,I,rfl,q⟩
def tyV(K:aA)(T:String)(x:V)(H:Hp):Prop:=match x with
 |.str _=>T="str"
 |.int _=>T="int"
 |.ref p=>(T="list"/\∃xs,SqL K H p xs)\/(T="tuple"/\∃o,K.lookup p=some o/\o.cls=.type "tuple"/\o.dict=none)\/
   (T="dict"/\((∃kvs,H p=some (.dK kvs))\/∃kvs,H p=some (.dT kvs)))\/(T="set"/\∃S n,H p=some (.set S n))
 |_=>False
theorem aMt{pins:List (BF×BI)}{σ:St}{H:Hp}{s:BE}{T:String}{x:V}{v:BD}(I:Inv X pins σ H s)(r:RelV x v)(ty:tyV X.K T x H):
  s.TypeIs v T/\∀a,v=.ref a->∃ob,s.heap.get? a=some ob/\ob.dict=none:=by
 cases x with
 |str z=>obtain⟨t,rfl⟩:=r;cases(show T="str" from ty);exact⟨typeIs_str s z t,λ_ e=>nomatch e⟩
 |int i=>obtain⟨t,rfl⟩:=r;cases(show T="int" from ty);exact⟨typeIs_int s i t,λ_ e=>nomatch e⟩
 |ref p=>
  cases r
  rcases ty with⟨rfl,xs,hq⟩|⟨rfl,o,hk,hc,hd⟩|⟨rfl,hk⟩|⟨rfl,S,n,hk⟩
  ·obtain⟨its,_,pl,_⟩:=I.list hq;refine⟨pl.isList.typeIs,λa e=> ?_⟩;cases e;obtain⟨o,n,e,c,hd,_⟩:=pl;exact⟨o,e,hd⟩
  ·refine⟨⟨o,I.kIn p o hk,hc⟩,λa e=> ?_⟩;cases e;exact⟨o,I.kIn _ o hk,hd⟩
  ·have z:∃o,s.heap.get? p=some o/\o.ExactDict:=by
    rcases hk with⟨kvs,hk⟩|⟨kvs,hk⟩
    ·obtain⟨_,_,_,_,o,_,_,e,ex,_⟩:=I.hok p _ hk;exact⟨o,e,ex⟩
    ·obtain⟨_,_,_,_,o,_,_,e,ex,_⟩:=I.hok p _ hk;exact⟨o,e,ex⟩
   obtain⟨o,e,ex⟩:=z;refine⟨⟨o,e,ex.1⟩,λa e2=> ?_⟩;cases e2;exact⟨o,e,ex.2.1⟩
  ·obtain⟨o,_,_,_,e,ex,_⟩:=I.hok p _ hk;refine⟨⟨o,e,ex.1⟩,λa e2=> ?_⟩;cases e2;exact⟨o,e,ex.2.1⟩
 |_=>exact False.elim ty
noncomputable def tBM(K:aA)(T:String)(r:V->List V->Hp->VK->Prop)(to:TE)(t:TA):TE:=λσ H Q=>to σ H λx H1=>tyV K T x H1/\t σ H1 λxs H2=>r x xs H2 Q
variable {o e:Expr}{es:List Expr}{to:TE}{t:TA}{name:Str}{apos cpos:Pos}{T id:String}{r:V->List V->Hp->VK->Prop}
theorem aIM(pa:PlainAttrs T)(slot:Slot T name id)(hty:typeOf (.builtin id)=pure (.type "method_descriptor"))(hm:MtR X id r)(ho:PE X o to)(ha:PA X (e::es) t)
  (hbase:Ae o name X.env (eval o X.env)=eval o X.env:=by rfl)
  (hfew:((Aa cpos (AB (e::es) X.env)).all (fun x=> !x.1) && (backToKw cpos (keywordEach [] X.env)).all (fun x=>x.1.isSome)
  &&decide ((e::es).length+([]:List Keyword).length+(if([]:List Keyword).isEmpty then 0 else 1)<30))=true:=by rfl)
  (hline:(apos.endLine==cpos.line)=true:=by rfl) (hs:AB (e::es) X.env=(false,eval e X.env)::AB es X.env:=by rfl) (hplain:(Aa cpos<|AB es X.env).any (·.1)=false:=by rfl):
  PE X (.Call (.Attribute o name apos) (e::es) [] cpos) (tBM X.K T r to t):=by
 intro pins s σ H Q I h;refine wpAny_Call_method_late hbase hfew hline rfl<|thn (ho pins s σ H _ I h) λv s1 ⟨x,H1,I1,r1,ty,q1⟩=> ?_;obtain⟨h1,h2⟩:=aMt I1 r1 ty;refine⟨T,id,pa,slot,hty,h1,h2, ?_⟩;have hA:=ha cpos pins s1 σ H1 _ I1 q1;rw[hs] at hA ⊢;refine Calls.callWith_builtin (by show(false||(Aa cpos<|AB es X.env).any (·.1))=false;rw[hplain]<;>rfl)<|Calls.evalArgs_plain ?_;exact thn hA λus s2 ⟨vs,H2,I2,r2,q2⟩=>hm pins s2 σ H2 x vs v us Q I2 r1 r2 q2
/- xs.append(e),list.index on a module's tuple .. are MtR facts of 06m -/
end
def MtM(X:Cx)(id:String)(r:V->List V->Hp->VK->Prop):Prop:=
 ∀ (pins:List (BF×BI)) (s:BE) (σ:St) (H:Hp) (x:V) (xs:List V) (v:BD) (us:List BD) (Q:VK),Inv X pins σ H s->RelV x v->Vals xs us->r x xs H Q->
  AK (AG X.prog X.w) X.A (call (.builtin id) (v::us)) (EP X pins σ Q) X.xe s
theorem Vals.one:∀ {x:V}{us:List BD},Vals [x] us->∃u,us=[u]/\RelV x u
 |_,_,.cons r .nil=>⟨_,rfl,r⟩
variable {pins:List (BF×BI)}{σ:St}{H:Hp}{s:BE}{l b:BF}{xs ys zs:List V}
theorem Inv.lset{its its':List BD}{n:Nat}{f:Array BD->Array BD}{t':Nat}(I:Inv X pins σ H s)(hH:H l=some (.lst xs))
  (e:s.heap.get? l=some {cls:=.type "list",data:=.seq its.toArray n}) (hf:f its.toArray=its'.toArray) (hv:Vals ys its') (hz:ys.length<=AM):
  Inv X pins σ (upd H l<|.lst ys) {s with heap:=s.heap.update l<|Obj.mapSeq f,toks:=t'}:=by
 have q:=PySem.IsL.update e f;rw[hf] at q;refine I.write (x:=l) (e:=l) (by rw[hH];exact trivial) (.inl rfl) (λb' u hb hu=>(cP s.heap (Obj.mapSeq f)<|Ne.symm hb).trans hu) ⟨_,q⟩ ?_;exact⟨hz,its',_,hv,q⟩
theorem Inv.lstM(I:Inv X pins σ H s)(hH:H l=some (.lst xs)):xs.length<=AM/\∃ (its:List BD) (n:Nat),Vals xs its/\xs.length=its.length/\s.heap.get? l=some {cls:=.type "list",data:=.seq its.toArray n}:=by obtain⟨z,its,n,r,e⟩:=I.hok l _ hH;exact⟨z,its,n,r,r.length,e⟩
theorem aGk{n:Nat}(h:n<=AM):Builtin.List.listTooLong n=false:=by unfold Builtin.List.listTooLong;exact decide_eq_false<|by omega
def tU:V->List V->Hp->VK->Prop:=λx vs H Q=>∃l xs y,x=.ref l/\vs=[y]/\H l=some (.lst xs)/\xs.length<AM/\Q .non (upd H l (.lst<|xs++[y]))
theorem yB:MtM X "list.append" tU:=by intro pins s σ H x vs v us Q I rx rv h;obtain⟨l,xs,y,rfl,rfl,hH,hz,q⟩:=h;cases rx;obtain⟨u,rfl,ru⟩:=rv.one;obtain⟨z,its,n,r,hl,e⟩:=I.lstM hH;refine call_meets F.slot_list_append ⟨_,e,rfl⟩ F.entry_list_append (F.args_list_append_2 _ _) (PySem.list_append l its.toArray n u<|by rw[bC];omega) ⟨e, ?_⟩;refine⟨.non,_,I.lset (its':=its++[u]) hH e (by simp) (r.append<|.cons ru .nil) ?_,rfl,q⟩;rw[aN,List.length_singleton];omega
def aDX:V->List V->Hp->VK->Prop:=λx vs H Q=>∃l b xs zs,x=.ref l/\vs=[.ref b]/\H l=some (.lst xs)/\H b=some (.lst zs)/\xs.length+zs.length<=AM/\Q .non (upd H l (.lst<|xs++zs))
theorem aFe:MtM X "list.extend" aDX:=by
 intro pins s σ H x vs v us Q I rx rv h;obtain⟨l,b,xs,zs,rfl,rfl,hH,hB,hz,q⟩:=h;cases rx;obtain⟨u,rfl,ru⟩:=rv.one;cases ru;obtain⟨z,its,n,r,hl,e⟩:=I.lstM hH;obtain⟨z2,its2,n2,r2,hl2,e2⟩:=I.lstM hB;have hsz:its.toArray.size+its2.toArray.size<=AM:=by rw[bC,bC];omega
 have hlong:¬ (!its.toArray.isEmpty&&Builtin.List.listTooLong (its.toArray.size+its2.toArray.size))=true:=by rw[aGk hsz,zB];exact bH
 refine call_meets F.slot_list_extend ⟨_,e,rfl⟩ F.entry_list_extend (F.args_list_extend_2 _ _)
  (AutoSeq1.list_extend_list_list_0 l its.toArray n b its2.toArray n2 hlong (by rw[bC];omega)<|by omega) ⟨e,e2, ?_⟩
 refine⟨.non,_,I.lset (its':=its++its2) hH e (by simp) (r.append r2) ?_,rfl,q⟩;rw[aN];omega
section
variable {prog:AE}{w:AL}{A:BG}{E:BD->BE->Prop}{s:BE}
set_option maxRecDepth 100000 in
end
section
variable {κ:Type}[DecidableEq κ]
noncomputable def iO(kvs:List (κ×V))(k:κ):Option V:=(kvs.find? λkv=>decide<|kv.1=k).map (·.2)
noncomputable def qX(kvs:List (κ×V))(k:κ)(v:V):List (κ×V):=
 if(kvs.any λkv=>decide<|kv.1=k)=true then kvs.map (λkv=>if kv.1=k then(kv.1,v) else kv) else kvs++[(k,v)]
theorem jG{p:κ×V}{r:List (κ×V)}{k:κ}(e:p.1=k):iO (p::r) k=some p.2:=by simp[iO,fW,e]
theorem gH{p:κ×V}{r:List (κ×V)}{k:κ}(e:¬ p.1=k):iO (p::r) k=iO r k:=by simp[iO,fW,e]
theorem wP(k:κ):∀kvs:List (κ×V),(kvs.any λkv=>decide<|kv.1=k)=(iO kvs k).isSome
 |[]=>rfl
 |p::r=>by
  rw[kC]
  by_cases e:p.1=k
  ·simp only[jG e,decide_eq_true e,Bool.true_or,Option.isSome_some]
  ·rw[gH e,decide_eq_false e,Bool.false_or];exact wP k r
theorem sE(kvs:List (κ×V))(k:κ)(v:V):(qX kvs k v).length<=kvs.length+1:=by
 unfold qX
 split
 ·rw[aC];omega
 ·rw[aN,bD,fX];omega
theorem qC{kvs:List (κ×V)}{k:κ}(v:V)(h:iO kvs k=none):qX kvs k v=kvs++[(k,v)]:=by unfold qX;rw[wP,h];exact if_neg<|by decide
theorem RelO.isSome_eq{o:Option V}{u:Option BD}(r:RelO o u):o.isSome=u.isSome:=by
 cases o with
 |none=>cases u with
  |none=>rfl
  |some _=>exact(show False from r).elim
 |some _=>cases u with
  |none=>exact(show False from r).elim
  |some _=>rfl
theorem KV.val{kvs:List (κ×V)}{vs:List (κ×BD)}(r:KV kvs vs)(k:κ):RelO (iO kvs k) (valueAt vs k):=by
 unfold KV at r
 induction r with
 |nil=>exact True.intro
 |@cons p q ps qs h t ih=>
  obtain⟨h1,h2⟩:=h
  by_cases e:p.1=k
  ·have e':q.1=k:=h1.symm.trans e;have b:valueAt (q::qs) k=some q.2:=by simp[valueAt,fW,e']
   rw[jG e,b];exact h2
  ·have e':¬ q.1=k:=λz=>e (h1.trans z)
   have b:valueAt (q::qs) k=valueAt qs k:=by simp[valueAt,fW,e']
   rw[gH e,b];exact ih
theorem KV.any{kvs:List (κ×V)}{vs:List (κ×BD)}(r:KV kvs vs)(k:κ):(kvs.any λkv=>decide<|kv.1=k)=vs.any λkv=>decide (kv.1=k):=by
 unfold KV at r
 induction r with
 |nil=>rfl
 |cons h t ih=>rw[kC,kC,ih,h.1]
theorem KV.repl{kvs:List (κ×V)}{vs:List (κ×BD)}(r:KV kvs vs)(k:κ){y:V}{u:BD}(ry:RelV y u):
  KV (kvs.map λkv=>if kv.1=k then(kv.1,y) else kv) (vs.map λkv=>if kv.1=k then(kv.1,u) else kv):=by
 unfold KV at r ⊢
 induction r with
 |nil=>exact .nil
 |@cons p q ps qs h t ih=>
  rw[aW,aW];refine .cons ?_ ih;obtain⟨h1,h2⟩:=h
  by_cases e:p.1=k
  ·rw[if_pos e,if_pos<|h1.symm.trans e];exact⟨h1,ry⟩
  ·rw[if_neg e,if_neg (λz=>e<|h1.trans z)];exact⟨h1,h2⟩
theorem KV.put{kvs:List (κ×V)}{vs:List (κ×BD)}(r:KV kvs vs)(k:κ){y:V}{u:BD}(ry:RelV y u):KV (qX kvs k y) (stored vs k u):=by
 unfold qX stored;rw[r.any k]
 by_cases e:(vs.any λkv=>decide<|kv.1=k)=true
 ·rw[if_pos e,if_pos e];exact r.repl k ry
 ·rw[if_neg e,if_neg e];exact Paired.snoc r ⟨rfl,ry⟩
theorem KV.length{kvs:List (κ×V)}{vs:List (κ×BD)}(r:KV kvs vs):kvs.length=vs.length:=Paired.length r
end
theorem aFT{P:AE}{w:AL}{k:Key}{u:BD}(r:RelV (kV k) u):(eA P w).is k u=true:=by
 cases k with
 |inl i=>obtain⟨t,e⟩:=(show ∃t,u=Value.int i t from r);subst e;exact aAw P w i t
 |inr x=>obtain⟨t,e⟩:=(show ∃t,u=Value.str x t from r);subst e;exact aAx P w x t
theorem yQ{P:AE}{w:AL}:∀ {ks:List Key}{us:List BD},Vals (ks.map kV) us->ItemsAre (eA P w) ks us
 |[],_,r=>by rw[eF] at r;cases r;exact .nil
 |k::ks,_,r=>by
  rw[aW] at r;cases r with
  |cons h t=>exact .cons (aFT h)<|yQ t
abbrev KT(H:Hp):List (List Key×V)->List (List Key×BF×BD)->Prop:=Paired λp q=>p.1=q.1/\H q.2.1=some (.tup<|p.1.map kV)/\RelV p.2 q.2.2
theorem KT.val{kvs:List (List Key×V)}{xs:List (List Key×BF×BD)}(r:KT H kvs xs)(k:List Key):RelO (iO kvs k) ((atKey xs k).map (·.2)):=by
 induction r with
 |nil=>exact True.intro
 |@cons p q ps qs h t ih=>
  obtain⟨h1,_,h2⟩:=h
  by_cases e:p.1=k
  ·have e':q.1=k:=h1.symm.trans e;have b:atKey (q::qs) k=some q.2:=by simp[atKey,fW,e']
   rw[jG e,b];exact h2
  ·have e':¬ q.1=k:=λz=>e (h1.trans z)
   have b:atKey (q::qs) k=atKey qs k:=by simp[atKey,fW,e']
   rw[gH e,b];exact ih
theorem KT.repl{kvs:List (List Key×V)}{xs:List (List Key×BF×BD)}(r:KT H kvs xs)(k:List Key){y:V}{u:BD}(ry:RelV y u):
  KT H (kvs.map λkv=>if kv.1=k then(kv.1,y) else kv) (xs.map<|putAt k u):=by
 induction r with
 |nil=>exact .nil
 |@cons p q ps qs h t ih=>
  rw[aW,aW];refine .cons ?_ ih;obtain⟨h1,h2,h3⟩:=h;unfold putAt
  by_cases e:p.1=k
  ·rw[if_pos e,if_pos<|h1.symm.trans e];exact⟨h1,h2,ry⟩
  ·rw[if_neg e,if_neg (λz=>e<|h1.trans z)];exact⟨h1,h2,h3⟩
theorem KT.put{kvs:List (List Key×V)}{xs:List (List Key×BF×BD)}(r:KT H kvs xs)(k:List Key){y:V}{u:BD}(hb:H b=some (.tup<|k.map kV))(ry:RelV y u):
  KT H (qX kvs k y) (storedH xs k b u):=by
 have e:(kvs.any λkv=>decide<|kv.1=k)=(atKey xs k).isSome:=by rw[wP,(r.val k).isSome_eq,rD]
 unfold qX storedH;rw[e]
 by_cases q:(atKey xs k).isSome=true
 ·rw[if_pos q,if_pos q];exact r.repl k ry
 ·rw[if_neg q,if_neg q];exact Paired.snoc r ⟨rfl,hb,ry⟩
theorem KT.keeps{H':Hp}{kvs:List (List Key×V)}{xs:List (List Key×BF×BD)}(r:KT H kvs xs)(ht:∀b ys,H b=some (.tup ys)->H' b=some (.tup ys)):KT H' kvs xs:=
 Paired.mapP r λ_ _ z=>⟨z.1,ht _ _ z.2.1,z.2.2⟩
variable {P:AE}{w:AL}{h:BH}{a:BF}
theorem aMc{u:HO}(ok:HOk P w H h)(e:Rd H a u):ObjOk P w H h a u:=e.ok ok
theorem aFQ{kvs:List (Key×V)}(ok:HOk P w H h)(e:Rd H a (.dK kvs)):kvs.length<=AM/\(a==AZ)=false/\∃vs,KV kvs vs/\h.DictOf (eA P w) a vs:=
 show ObjOk P w H h a (.dK kvs) from aMc ok e
theorem aOL{kvs:List (Key×V)}(ok:HOk P w H h)(e:H a=some (.dK kvs)):kvs.length<=AM/\(a==AZ)=false/\∃vs,KV kvs vs/\h.DictOf (eA P w) a vs:=aFQ ok<|.inl e
theorem lU{ks:List Key}(ok:HOk P w H h)(e:H a=some (.tup<|ks.map kV)):(Af<|eA P w).is h ks a:=by obtain⟨_,its,r,o,h1,h2,⟨n,h3⟩,_⟩:=(show ObjOk P w H h a (.tup<|ks.map kV) from ok a _ e);exact⟨o,its.toArray,n,h1,h2,h3,by simpa using yQ r⟩
theorem aFP{kvs:List (List Key×V)}(ok:HOk P w H h)(e:Rd H a (.dT kvs)):kvs.length<=AM/\(a==AZ)=false/\
  ∃xs,KT H kvs xs/\h.DictOfH (Af<|eA P w) a xs:=by
 obtain⟨z,y,xs,r,o,es,ep,h1,h2,h3,h4,h5⟩:=(show ObjOk P w H h a (.dT kvs) from aMc ok e);refine⟨z,y,xs,r,o,es,ep,h1,h2,h3,h4,λx hx=> ?_,h5⟩
 have all:∀ {l:List (List Key×V)}{m:List (List Key×BF×BD)},KT H l m->∀x∈m,(Af<|eA P w).is h x.1 x.2.1:=by
  intro l m q
  induction q with
  |nil=>intro x hx;exact nomatch hx
  |@cons p q ps qs hq t ih=>
   intro x hx
   rcases bA.mp hx with e|hx
   ·subst e;exact lU ok (by rw[<-hq.1];exact hq.2.1)
   ·exact ih x hx
 exact all r x hx
theorem aOx{kvs:List (List Key×V)}(ok:HOk P w H h)(e:H a=some (.dT kvs)):kvs.length<=AM/\(a==AZ)=false/\
  ∃xs,KT H kvs xs/\h.DictOfH (Af<|eA P w) a xs:=aFP ok<|.inl e
def aLi(H:Hp)(a:BF)(y:V)(r:Option V):Prop:=
 (∃kvs k,Rd H a (.dK kvs)/\y=kV k/\r=iO kvs k)\/∃kvs k b,Rd H a (.dT kvs)/\y=.ref b/\H b=some (.tup<|k.map kV)/\r=iO kvs k
def DPut(H:Hp)(a:BF)(y v:V)(H':Hp):Prop:=
 (∃kvs k,H a=some (.dK kvs)/\y=kV k/\kvs.length<AM/\H'=upd H a (.dK<|qX kvs k v))\/
 ∃kvs k b,H a=some (.dT kvs)/\y=.ref b/\H b=some (.tup<|k.map kV)/\kvs.length<AM/\H'=upd H a (.dT<|qX kvs k v)
theorem DPut.k{H:Hp}{a:BF}{kvs:List (Key×V)}{k:Key}{v:V}(e:H a=some (.dK kvs))(hl:kvs.length<AM):DPut H a (kV k) v (upd H a (.dK<|qX kvs k v)):=.inl ⟨kvs,k,e,rfl,hl,rfl⟩
variable {y v:V}{u r:BD}{o:Option V}{A:BG}{E:BD->BE->Prop}
theorem Inv.big(I:Inv X pins σ H s):AZ<s.heap.objs.size:=by have h:AO<s.heap.objs.size:=(I.mod.glob.keeps I.bk).lt;exact oF (by decide) h
theorem aFl{Q:BD->BE->Prop}(hu:A.units+1<AS)(I:Inv X pins σ H s)(g:aLi H a y (some v))(ry:RelV y u)(h:∀w' s',Inv X pins σ H s'->RelV v w'->Q w' s'):
  AK (AG X.prog X.w) A (getItem (.ref a) u) Q E s:=by
 rcases g with⟨kvs,k,e,ey,l⟩|⟨kvs,k,b,e,ey,eb,l⟩
 ·subst ey;obtain⟨z,hd,vs,rel,dd⟩:=aFQ I.hok e;obtain⟨w',hw,rw'⟩:=RelO.some_of (v:=v) (o:=valueAt vs k) (by rw[l];exact rel.val k);exact wpAny_getItem_of (aFT ry) dd.mapOf hw<|h w' _ (I.tok _) rw'
 ·subst ey;cases(show u=Value.ref b from ry);obtain⟨z,hd,xs,rel,dd⟩:=aFP I.hok e;obtain⟨w',hw,rw'⟩:=RelO.some_of (v:=v) (o:=(atKey xs k).map (·.2)) (by rw[l];exact rel.val k);obtain⟨p,hp,hp2⟩:=eO.mp hw;refine wpAny_getItem_heap (Ad hu) (lU I.hok eb) dd hp ?_;rw[hp2];exact h w' _ (I.tok _) rw'
theorem aJr{Q:BD->BE->Prop}(hu:A.units+1<AS)(I:Inv X pins σ H s)(g:aLi H a y o)(ry:RelV y u)(h:∀s',Inv X pins σ H s'->Q (.bool<|!o.isSome) s'):
  AK (AG X.prog X.w) A (AW .NotIn u<|.ref a) Q E s:=by
 rcases g with⟨kvs,k,e,ey,l⟩|⟨kvs,k,b,e,ey,eb,l⟩
 ·subst ey;obtain⟨z,hd,vs,rel,dd⟩:=aFQ I.hok e;refine wpAny_notIn_of (aFT ry) hd dd.mapOf ?_;rw[<-(rel.val k).isSome_eq,<-l];exact h _<|I.tok _
 ·subst ey;cases(show u=Value.ref b from ry);obtain⟨z,hd,xs,rel,dd⟩:=aFP I.hok e;refine wpAny_notIn_heap (Ad hu) (lU I.hok eb) hd dd ?_;have q:=(rel.val k).isSome_eq;rw[rD] at q;rw[<-q,<-l];exact h _<|I.tok _
theorem oQ{h':BH}{t':Nat}{ob:HO}(I:Inv X pins σ H s)(mu:Mut (H a))(hs:Heap.SameBut a s.heap h')(he:∃q,h'.get? a=some q)(new:ObjOk X.prog X.w (upd H a ob) h' a ob):
  Inv X pins σ (upd H a ob) {s with heap:=h',toks:=t'}:=
 I.write (x:=a) (e:=a) mu (.inl rfl) (λb q hb z=>(hs.2 b hb).trans z) he new
theorem aMK{H':Hp}{h':BH}{kvs:List (Key×V)}{vs:List (Key×BD)}(z:kvs.length<=AM)(hd:(a==AZ)=false)(rel:KV kvs vs)(dd:h'.DictOf (eA P w) a vs):
  ObjOk P w H' h' a (.dK kvs):=⟨z,hd,vs,rel,dd⟩
theorem aFu{H':Hp}{Q:Unit->BE->Prop}(hu:A.units+1<AS)(I:Inv X pins σ H s)(g:DPut H a y v H')(ry:RelV y u)(rv:RelV v r)(h:∀s',Inv X pins σ H' s'->Q () s'):
  AK (AG X.prog X.w) A (setItem (.ref a) u r) Q E s:=by
 rcases g with⟨kvs,k,e,ey,l,eH⟩|⟨kvs,k,b,e,ey,eb,l,eH⟩
 ·subst ey eH;obtain⟨z,hd,vs,rel,dd⟩:=aOL I.hok e;have hz:vs.length<=AM:=by rw[<-rel.length];exact z
  have hl:(qX kvs k v).length<=AM:=by have:=sE kvs k v;omega
  refine wpAny_setItem_pairs (hsz:=hz) (aFT ry) dd λh' dd' hs=>h _ ?_
  have he:∃q,h'.get? a=some q:=let ⟨q,_,_,hq,_⟩:=dd';⟨q,hq⟩
  exact oQ I (by rw[e];exact True.intro) hs he<|aMK hl hd (rel.put k rv) dd'
 ·subst ey eH;cases(show u=Value.ref b from ry);obtain⟨z,hd,xs,rel,dd⟩:=aOx I.hok e;have hz:xs.length<=AM:=by rw[<-Paired.length rel];exact z
  have hl:(qX kvs k v).length<=AM:=by have:=sE kvs k v;omega
  refine wpAny_setItem_heap (hsz:=hz) (Ad hu) (lU I.hok eb) dd λh' dd' hs=>h _ ?_
  obtain⟨q,es,ep,hq,h2,h3,h4,_,h5⟩:=dd';refine oQ I (by rw[e];exact True.intro) hs ⟨q,hq⟩ ⟨hl,hd,_,(rel.put k eb rv).keeps λc ys ec=> ?_,q,es,ep,hq,h2,h3,h4,h5⟩;rw[aR<|aOV ec e λz=>nomatch z];exact ec
def aND(i:Expr):Prop:=∀ov iv,subscripted i false ov iv=operate [ov,iv] (getItem ov iv)
theorem aDM{prog:AE}{env:Env}{value slice:Expr}{T id:String}{Q:BD->BE->Prop}
  (hl:typeLookup (.type T) "__getitem__"=pure (some<|.builtin id)) (hs:aND slice)
  (h:AK (AG prog w) A (eval value env) (λo s₁=>AK (AG prog w) A (eval slice env) (λi s₂=>s₂.TypeIs o T/\AK (AG prog w) A (getItem o i) Q E s₂) E s₁) E s):
  AK (AG prog w) A (eval (.Subscript value slice pos) env) Q E s:=by
 refine Subscript_<|AX h (λo s₁ h₁=>AX h₁ (λi s₂ h₂=> ?_) λ_ _ x=>x) λ_ _ x=>x;obtain⟨hT,h₂⟩:=h₂;unfold subscriptTail;refine AA ?_;rw[getitemInPython_of_ne hT.not_modules];refine AA<|wpAny_specialOf hT hl ?_
 have fin:AK (AG prog w) A (subscripted slice false o i) (λr s₃=>AK (AG prog w) A (letTemporaryGo value o r>>=λ_=>pure r) Q E s₃) E s₂:=by rw[hs o i];exact wpAny_operating<|AX h₂ (λr s₃ h₃=>AA (wpAny_letTemporaryGo<|AC h₃)) λ_ _ x=>x
 first
  |exact AC (AA fin)
  |exact AA (AC<|AA fin)
  |exact AA fin
theorem aAu(I:Inv X pins σ H s)(g:aLi H a y o):s.TypeIs (.ref a) "dict":=by
 rcases g with⟨kvs,k,e,_,_⟩|⟨kvs,k,b,e,_,_,_⟩
 ·obtain⟨_,_,vs,_,dd⟩:=aFQ I.hok e;exact dd.typeIs
 ·obtain⟨_,_,xs,_,dd⟩:=aFP I.hok e;exact dd.typeIs
noncomputable def aOY(td ty:TE):TE:=λσ H Q=>td σ H λx H1=>ty σ H1 λy H2=>∃a v,x=.ref a/\aLi H2 a y (some v)/\Q v H2
noncomputable def aJG(ty td:TE):TE:=λσ H Q=>ty σ H λy H1=>td σ H1 λx H2=>∃a o,x=.ref a/\aLi H2 a y o/\Q (.bl<|!o.isSome) H2
noncomputable def aOy(td ty tv:TE):TS:=λD σ H=>tv σ H λv H1=>td σ H1 λx H2=>ty σ H2 λy H3=>∃a H4,x=.ref a/\DPut H3 a y v H4/\D.nx σ H4
variable {o i value:Expr}{pos' tpos:Pos}{td ty tv:TE}
theorem aJK(hu:X.A.units+1<AS)(ho:PE X o td)(hi:PE X i ty)(hs:aND i):PE X (.Subscript o i pos) (aOY td ty):=by intro pins s σ H Q I h;refine aDM xD.lookup hs<|thn (ho pins s σ H _ I h) λu s1 ⟨x,H1,I1,rx,q1⟩=>thn (hi pins s1 σ H1 _ I1 q1) λiv s2 ⟨y,H2,I2,ry,a,v,ex,g,q2⟩=> ?_;subst ex;obtain rfl:u=Value.ref a:=rx;exact⟨aAu I2 g,aFl hu I2 g ry λw' s3 I3 rw'=>⟨v,H2,I3,rw',q2⟩⟩
theorem aEF(hu:X.A.units+1<AS)(hi:PE X i ty)(ho:PE X o td):PC X .NotIn i o (aJG ty td):=by
 intro pins s σ H Q I h;refine thn (hi pins s σ H _ I h) λiv s1 ⟨y,H1,I1,ry,q1⟩=>thn (ho pins s1 σ H1 _ I1 q1) λu s2 ⟨x,H2,I2,rx,a,ov,ex,g,q2⟩=> ?_
 subst ex;obtain rfl:u=Value.ref a:=rx;exact aJr hu I2 g ry λs3 I3=>⟨.bl<|!ov.isSome,H2,I3,rfl,q2⟩
theorem aJd(hu:X.A.units+1<AS)(ho:PE X o td)(hi:PE X i ty)(hv:PE X value tv)(hs:AY value (some<|.Subscript o i pos') pos.line X.env=pure false):
  PS X (.Assign [.Subscript o i pos'] value pos) (aOy td ty tv):=by
 intro pins s σ H D I h;refine wpAny_Assign_Subscript (thn (hv pins s σ H _ I h) λr s1 ⟨v,H1,I1,rv,q1⟩=>thn (ho pins s1 σ H1 _ I1 q1) λu s2 ⟨x,H2,I2,rx,q2⟩=>thn (hi pins s2 σ H2 _ I2 q2) λiv s3 ⟨y,H3,I3,ry,a,H4,ex,g,q3⟩=> ?_) hs;subst ex;obtain rfl:u=Value.ref a:=rx;exact aFu hu I3 g ry rv λs4 I4=>⟨σ,H4,I4,q3⟩
theorem aGD(h:BH)(hb:AZ<h.objs.size):ObjOk P w H (h.push {cls:=.type "dict",data:=.dict #[]}) h.objs.size (.dK []):=
 ⟨cQ _,beq_eq_false_iff_ne.mpr (Ne.symm<|bQ hb),[],.nil,Heap.DictOf.new h⟩
noncomputable def aNy:TE:=λ_ H Q=>∀p,H p=none->Q (.ref p) (upd H p<|.dK [])
theorem aHg:PE X (.Dict [] [] pos) aNy:=λpins s σ H Q I h=>wpAny_Dict_empty ⟨.ref s.heap.objs.size,_,I.laid (a:=s.heap.objs.size) (o:=.dK []) (t':=s.toks) (λ_ _ q=>aF _ q) (aJ _)<|aGD s.heap I.big,rfl,h _ (I.hok.fresh<|aJ _)⟩
abbrev VV:List (V×V)->List (BD×BD)->Prop:=Paired λp q=>RelV p.1 q.1/\RelV p.2 q.2
structure M1(X:Cx)(o:Expr)(m:Str)(apos:Pos)(e:Expr)(cpos:Pos):Prop where
 base:Ae o m X.env (eval o X.env)=eval o X.env
 few:((Aa cpos (AB [e] X.env)).all (fun x=> !x.1) && (backToKw cpos (keywordEach [] X.env)).all (fun x=>x.1.isSome)
 &&decide (([e]:List Expr).length+([]:List Keyword).length+(if([]:List Keyword).isEmpty then 0 else 1)<30))=true
 line:(apos.endLine==cpos.line)=true
 trees:Aa cpos (AB [e] X.env)=[(false,eval e X.env)]
structure M2(X:Cx)(o:Expr)(m:Str)(apos:Pos)(e f:Expr)(cpos:Pos):Prop where
 base:Ae o m X.env (eval o X.env)=eval o X.env
 few:((Aa cpos (AB [e,f] X.env)).all (fun x=> !x.1) && (backToKw cpos (keywordEach [] X.env)).all (fun x=>x.1.isSome)
 &&decide (([e,f]:List Expr).length+([]:List Keyword).length+(if([]:List Keyword).isEmpty then 0 else 1)<30))=true
 line:(apos.endLine==cpos.line)=true
 trees:Aa cpos (AB [e,f] X.env)=[(false,eval e X.env),(false,eval f X.env)]
end L2
namespace Att
open PySem PySem.W PySem.Calls PyProof.Rows
theorem sP{P:Params}{h:BH}:∀ (ns:List Int) (vs:List BD),WellAll P h vs (ns.map WData.int)->IntsAre vs ns:=by
 intro ns
 induction ns with
 |nil=>intro vs w;rw[eF] at w;cases w;exact .nil
 |cons n ns ih=>
  intro vs w;rw[aW] at w;cases w with
  |cons a b=>cases a;exact .cons _ _<|ih _ b
theorem aFw{l:OpenLaw}{n:Nat}(hn:l.most=some n){P:Params}{h:BH}{args:List WData}{vals:List BD}
  (hpre:l.row.toRowW.claim.pre args=true) (hwl:WellAll P h vals args):
  ∃a vs ns,vals=[Value.ref a]/\args=[WData.list<|ns.map WData.int]/\h.get? a=some {cls:=.type "list",data:=.seq vs.toArray}/\IntsAre vs ns/\ns.length<=n:=by
 have hsh:WShape.hasAll [] args [.list .int]=true:=(pre_splitW hpre).1;have hc:l.pre.holds [] {args:=args}=true:=(pre_splitW hpre).2;obtain⟨d,r,rfl,h1,h2⟩:=hasAllW_cons hsh;obtain rfl:=hasAllW_nil h2;obtain⟨xs,rfl,h3⟩:=hasW_list h1;obtain⟨ns,rfl⟩:=items_int h3
 have hlen:ns.length<=n:=by
  unfold OpenLaw.pre at hc
  have h4:(WTm.not<|.lt (.lit<|.int (n:Int)) (.len<|.arg 0)).holds [] {args:=[.list<|ns.map .int]}=true:=by have h4:=(holds_andW hc).1;rw[hn] at h4;exact h4
  have h5:=condW_of h4 (w_not<|w_lt w_lit (w_len_list<|w_arg rfl));rw[aC] at h5;refine Nat.le_of_not_lt λq=> ?_
  have q':(n:Int)<((ns.length:Nat):Int):=by omega
  first
   |(rw[decide_eq_true q'] at h5;exact absurd h5<|by decide)
   |(simp at h5;omega)
 cases hwl with
 |cons w1 w2=>
  cases w2;cases w1 with
  |list ho hall=>exact⟨_,_,ns,rfl,rfl,ho,sP ns _ hall,hlen⟩
theorem aEz(l:OpenLaw)(args:List WData):l.row.toRowW.claim.post args (.bool true) args=true:=
 postW_of (r:=l.row.toRowW) (X:=(true==true))
  (show WShape.has [] (.bool true) .bool=true by first|rfl|decide|simp[WShape.has,WShape.arms,WShape.armsAll])
  (show(WTm.eq .res (.lit<|.bool true)).value [] {args:=args,res:=some<|.bool true,after:=args}=some (.bool<|true==true) from w_eq_bool (w_res rfl) w_lit) rfl
theorem attach_call{l:OpenLaw}{n:Nat}{q:AE}{loose:List Str}{XP:(Str->Option BD)->BH->Prop}{YP:AL->BH->Prop}{d:DefRec}
  (hn:l.most=some n) (hdf:d.params.defaults=[])
  (call:∀ (w:AL) (s₀ s₁:BE) (mg mb:Str→Option BD) (fa:BF) (o:BI) (pm cd doc:BD) (a:BF) (vs:List BD) (ns:List Int),
   Ground q loose [] XP w s₀ mg mb s₁.heap->YP w s₁.heap->
   s₁.heap.get? fa=some o->o.data=.func (docDef d.name d.params d.body d.scope pm cd doc)->s₁.heap.CodeRec cd d.name->mg d.name=some (.ref fa)->
   s₁.heap.get? a=some {cls:=.type "list",data:=.seq vs.toArray}->IntsAre vs ns->ns.length<=n->s₁.gens= #[]->
   Az (AG l.prog w) callerA (.call (.ref fa) ⟨[.ref a],[]⟩) (λr s'=>r=.ok (.ret (.bool true))/\OldK s₁.heap s'.heap/\s'.os=s₁.os/\AllBare s'.gens) s₁):
  WalkO q loose XP YP l.row.toRowW d [] (λf vs=>PySem.call f vs):=by
 intro w s₀ s₁ mg mb G Y fa o pm cd doc dV kV ho hd hcd hD hmg hg args vals as hpre hlay hrd hwl hlo;obtain rfl:dV=.none:=Dflts.none hD hdf;obtain rfl:kV=.none:=Dflts.noKw hD;obtain⟨a,vs,ns,rfl,rfl,hobj,hints,hlen⟩:=aFw hn hpre hwl;refine enter_call<|Aj (call w s₀ s₁ mg mb fa o pm cd doc a vs ns G Y ho (fd_plain hd) hcd hmg hobj hints hlen hg) λr s' hq=> ?_;obtain⟨rfl,h2,h3,h4⟩:=hq;exact⟨.inl ⟨.bool true,.bool true,[],rfl,λ_=>rfl,.bool true,aEz l _,λ_=>⟨List.Pairwise.nil,λ_ hm=>(nomatch hm)⟩⟩,h2,h3,h4⟩
end Att
namespace L2
open PySem PySem.Spec PyProof.Rows
theorem yW:∀ {vs:List BD}{ns:List Int},IntsAre vs ns->Vals (ns.map V.int) vs
 |_,_,.nil=>.nil
 |_,_,.cons n t h=>.cons ⟨t,rfl⟩<|yW h
def aNQ(H:Hp):Prop:=∀b,H b=none\/∃o xs,H b=some (.frz o<|.lst xs)
theorem aGy{P:AE}{w:AL}{K:aA}{mg mb:Str->Option BD}{CX:CXT}{k:Nat}{fa a:BF}{fd:AN}{x:Str}{sp:Sp}{s₁:BE}{vs:List BD}{ns:List Int}
  (KX:K.In s₁.heap) (hns:s₁.heap.Ns AO mg) (hb:s₁.heap.Ns builtinsNs mb) (hbb:∀x:Str,x≠"__name__"->mb x=Ai x) (hlim:s₁.heap.NoLimit) (hg:s₁.gens= #[])
  (ha:s₁.heap.get? a=some {cls:=.type "list",data:=.seq vs.toArray}) (hi:IntsAre vs ns) (hl:ns.length<=AM) (hr:Room k callerA)
  (F:∀base:BH,K.In base->base.Ns AO mg->FnOk P w K mg base CX k fa fd [x] sp) (hbind:∀ (s:BE) (u:BD),BindsTo s fd ⟨[u],[]⟩ [(x,u)])
  (hsp:∀H:Hp,aNQ H->SqL K H a (ns.map V.int)->sp [.ref a] H (λv _=>v=.bl true) λ_ _ _=>False)
  (hCX:∀H e s',CX [] H s₁ (λ_ _ _=>False) e s'->False):
  Az (AG P w) callerA (.call (.ref fa) ⟨[.ref a],[]⟩) (λr s'=>r=.ok (.ret<|.bool true)/\OldK s₁.heap s'.heap/\s'.os=s₁.os/\AllBare s'.gens) s₁:=by
 have rv:=yW hi;have lenV:=hi.length
 have core:∀H:Hp,aNQ H->SqL K H a (ns.map V.int)->HOk P w H s₁.heap->(∀b,H b≠none->b=a)->(H a≠none->K.lookup a=none)->
   Az (AG P w) callerA (.call (.ref fa) ⟨[.ref a],[]⟩) (λr s'=>r=.ok (.ret<|.bool true)/\OldK s₁.heap s'.heap/\s'.os=s₁.os/\AllBare s'.gens) s₁:=by
  intro H hO hS hok hA hK;have base_of:∀ {b:BF}{o:BI},s₁.heap.get? b=some o->H b=none->(zL s₁.heap H).get? b=some o:=λe n=>aGP e n
  have noA:∀ {b:BF}{o:BI}{es:Array DictEntry}{ep:Nat},s₁.heap.get? b=some o->o.data=.dict es ep->H b=none:=λ{b o es ep} e d=>by
   cases q:H b with
   |none=>rfl
   |some u=>have e':b=a:=hA b (by rw[q];simp);subst e';rw[ha] at e;cases e;have d':Data.seq vs.toArray _=Data.dict es ep:=d;cases d'
  have nsK:∀ {b:BF}{m:Str->Option BD},s₁.heap.Ns b m->(zL s₁.heap H).Ns b m:=λ{b m} ⟨o,es,ep,e,d,r⟩=>⟨o,es,ep,base_of e<|noA e d,d,r⟩
  have hKb:K.In (zL s₁.heap H):=fun b o e=>base_of (KX b o e) (by
   cases q:H b with
   |none=>rfl
   |some u=>
    have e':b=a:=hA b (by rw[q];simp);subst e'
    rw[hK (by rw[q];simp)] at e;cases e)
  have hM:Mod K mg (zL s₁.heap H):=⟨hKb,nsK hns,⟨mb,nsK hb,hbb⟩,let ⟨mc,h1,h2⟩:=hlim;⟨mc,nsK h1,h2⟩⟩;have e0:Env0 P w K mg (zL s₁.heap H) callerA [] s₁ H:=⟨rfl,hM,λb o e=>aJS e,sT<|aEs _ _,trivial,λb hb=>absurd (show b∈([]:List BF) from hb)<|by simp,hok,.of_eq hg⟩;refine Aj ((F _ hKb<|nsK hns).run callerA [] s₁ H ⟨[.ref a],[]⟩ [.ref a] [.ref a] _ _ hr e0 (hbind s₁<|.ref a) (.cons rfl .nil)<|hsp H hO hS) λr s' h=> ?_
  cases r with
  |error e=>exact(hCX H e s' h).elim
  |ok fl=>
   cases fl with
   |next=>exact False.elim h
   |brk=>exact False.elim h
   |cont=>exact False.elim h
   |ret u=>
    obtain⟨v,H',os,bare,un,hok',r',q⟩:=h;have q':v=.bl true:=q;subst q';obtain rfl:u=Value.bool true:=r';refine⟨rfl,OldK.of_keep λb o e=> ?_,os,bare⟩;cases q:H b with
    |none=>exact un.keep b o e q (by intro z;exact absurd (show b∈([]:List BF) from z)<|by simp)<|by simp
    |some u=>
     rcases hO b with z|⟨ob,xs,z⟩
     ·rw[q] at z;cases z
     ·have z2:=un.frzs b ob _ z;obtain⟨e1,_⟩:=hok b _ z;obtain⟨e2,_⟩:=hok' b _ z2;rw[e] at e1;cases e1;exact e2
 cases hk:K.lookup a with
 |some o=>
  have e:=KX a o hk;rw[ha] at e;cases e;refine core (λ_=>none) (λ_=>.inl rfl) (.inr ⟨_,vs.toArray,_,hk,rfl,rfl,rfl,by rw[bC,lenV];exact hl,by simpa using rv⟩) (λb u z=>by have z':(none:Option HO)=some u:=z;cases z') (λb z=>absurd rfl z) λz=>absurd rfl z
 |none=>
  refine core (λb=>if b=a then some (.frz {cls:=.type "list",data:=.seq vs.toArray} (.lst<|ns.map V.int)) else none) (λb=> ?_) (.inl<|.inr ⟨{cls:=.type "list",data:=.seq vs.toArray},if_pos rfl⟩) (λb u z=> ?_) (λb z=> ?_) λ_=>hk
  ·by_cases hb:b=a
   ·exact .inr ⟨_,_,if_pos hb⟩
   ·exact .inl<|if_neg hb
  ·by_cases hb:b=a
   ·have z':=(if_pos hb).symm.trans z;cases z';subst hb;exact⟨ha,by rw[aC];exact hl,vs,_,rv,ha⟩
   ·have z':=(if_neg hb).symm.trans z;cases z'
  ·by_cases hb:b=a
   ·exact hb
   ·exact absurd (if_neg hb) z
noncomputable abbrev KOf{K:aA}{h:BH}(_:K.In h):aA:=K
theorem walk_of{l:PySem.W.OpenLaw}{n k:Nat}{q:AE}{loose:List Str}{XP:(Str->Option BD)->BH->Prop}{YP:AL->BH->Prop}{d:DefRec}{K:Params->aA}{CX:AL->CXT}{sp:AL->Sp}{x:Str}
  (hn:l.most=some n) (hn2:n<=AM) (hdf:d.params.defaults=[]) (hr:Room k callerA)
  (hY:∀ (w:AL) (h:BH),YP w h->(K w.params).In h)
  (F:∀ (w:AL) (mg:Str→Option BD) (fa:BF) (h:BH),(K w.params).In h→h.Ns AO mg→mg d.name=some (.ref fa)→
   ∃fd:AN,(∀ (s:BE) (u:BD),BindsTo s fd ⟨[u],[]⟩ [(x,u)])/\
    ∀base:BH,(K w.params).In base->base.Ns AO mg->FnOk l.prog w (K w.params) mg base (CX w) k fa fd [x] (sp w))
  (hsp:∀ (w:AL) (H:Hp) (a:BF) (ns:List Int),ns.length<=n->aNQ H->SqL (K w.params) H a (ns.map V.int)->sp w [.ref a] H (λv _=>v=.bl true) λ_ _ _=>False)
  (hCX:∀ (w:AL) (H:Hp) (s:BE) (e:BD) (s':BE),CX w [] H s (λ_ _ _=>False) e s'->False):
  PySem.W.WalkO q loose XP YP l.row.toRowW d [] (λf vs=>PySem.call f vs):=by
 refine Att.attach_call hn hdf λw s₀ s₁ mg mb fa o pm cd doc a vs ns G Y ho hd hcd hmg hobj hints hlen hg=> ?_
 have KX:=hY w _ Y;obtain⟨fd,hb,hF⟩:=F w mg fa _ KX G.T.g hmg;exact aGy KX G.T.g G.T.b G.T.builtins G.T.nolimit hg hobj hints (cD hlen hn2) hr hF hb (λH hO hS=>hsp w H a ns hlen hO hS) λH e s'=>hCX w H s₁ e s'
noncomputable def aEj(s:BJ)(j:Nat):BJ:=match s with
 |.ClassDef _ _ _ body _ _ _ _ _ _ _=>body.getD j<|.Pass ⟨0,0,0,0⟩
 |_=> .Pass ⟨0,0,0,0⟩
noncomputable def dW(s:BJ):Arguments:=match s with
 |.FunctionDef _ a _ _ _ _ _ _ _ _=>a
 |_=>{posonlyargs:=[],args:=[],vararg:=none,kwonlyargs:=[],kw_defaults:=[],kwarg:=none,defaults:=[]}
noncomputable def cM(s:BJ):List BJ:=match s with
 |.FunctionDef _ _ b _ _ _ _ _ _ _=>b
 |_=>[]
noncomputable def aK(s:BJ):Scope:=match s with
 |.FunctionDef _ _ _ _ _ _ sc _ _ _=>sc
 |_=>{kind:=.function,names:=[],isGenerator:=false,isCoroutine:=false}
noncomputable abbrev CX0:CXT:=λ_ _ _ _ _ _=>False
noncomputable abbrev E0:XK:=λ_ _ _=>False
theorem aCK{X:Cx}:vA CX0 X E0:=λ_ _ _ _ _ _ _ h=>h.elim
structure Fun(K:aA)(x qual:Str)(st:BJ)(f:BF)(fd:AN):Prop where
 ex:∃ (oc:BD) (od:Option BF) (kV doc pm:BD) (an:Option BF) (cdv ct:BD) (osl:Array (Option BD)),
  fd=bY x qual (dW st) (cM st) (aK st) .none kV doc pm an cdv ct/\K.lookup f=some ⟨oc,od,.func fd,osl⟩/\eL K cdv qual=true
 kp:cG K (.ref f)=true
variable {P:AE}{w:AL}{K:aA}{mg:Str->Option BD}{base:BH}
theorem Fun.ok{x qual:Str}{st:BJ}{f:BF}{fd:AN}{N ps:List Str}{k:Nat}{sp:Sp}(F:Fun K x qual st f fd)(S:fK N ps (aK st))(len:∀vs H Q E,sp vs H Q E->vs.length=ps.length)
  (hbody:∀ (cdv:BD) (A:BG) (outer:List Env) (s:BE) (H:Hp) (vs:List V) (Q:VK) (E:XK),Room k (A.deeper (Ag qual (aK st) s.heap.objs.size f cdv))→sp vs H Q E→
   ∃t,PSs (jB CX0 P w K mg base N qual (aK st) f cdv A outer s H E).nox (cM st) t/\t {nx:=λ_ H'=>Q .non H',rt:=Q} (start N vs) H):FnOk P w K mg base CX0 (k+1) f fd ps sp:=by
 obtain⟨oc,od,kV,doc,pm,an,cdv,ct,osl,rfl,lk,hcd⟩:=F.ex;refine aFK lk hcd S len λA outer s H vs Q E hr hsp=> ?_
 obtain⟨t,h,q⟩:=hbody cdv A outer s H vs Q E hr hsp;exact⟨t,h.nox,q⟩
theorem Fun.binds{x qual:Str}{st:BJ}{f:BF}{fd:AN}{ps:List Str}(F:Fun K x qual st f fd)
  (h:∀ (kV doc pm:BD) (an:Option BF) (cdv ct:BD) (us:List BD),us.length=ps.length->bindArgs (bY x qual (dW st) (cM st) (aK st) .none kV doc pm an cdv ct) ⟨us,[]⟩=pure (ps.zip us)):Binds K fd ps []:=by
 obtain⟨oc,od,kV,doc,pm,an,cdv,ct,osl,rfl,lk,hcd⟩:=F.ex;exact .all<|h kV doc pm an cdv ct
theorem zO{x qual:Str}{st:BJ}{f:BF}{oc:BD}{od an:Option BF}{osl:Array (Option BD)}{kV doc pm cdv ct:BD}(l:K.lookup f=some ⟨oc,od,.func<|bY x qual (dW st) (cM st) (aK st) .none kV doc pm an cdv ct,osl⟩)
  (c:eL K cdv qual=true) (k:cG K (.ref f)=true):Fun K x qual st f (bY x qual (dW st) (cM st) (aK st) .none kV doc pm an cdv ct):=⟨⟨oc,od,kV,doc,pm,an,cdv,ct,osl,rfl,l,c⟩,k⟩
theorem eV{n:Nat}(h:n<=10000):n<AM:=cN h<|by decide
variable {X:Cx}
theorem pv(i:Nat){x:Str}{pos:Pos}(hN:X.N[i]? =some x:=by rfl)(hv:Vis X.env.scope x:=by first|exact Or.inl rfl|exact Or.inr (Or.inl rfl)|exact Or.inr (Or.inr rfl))(hd:(x==("__debug__":Str))=false:=by decide)
  (hcd:(x==("__classdict__":Str))=false:=by decide):PE X (.Name x pos) (iI i):=aNA hN hv hd hcd
theorem aIH{A B:Prop}(h:B):if false=true then A else B:=by rw[if_neg bH];exact h
theorem aIC{A B:Prop}(h:A):if true=true then A else B:=by rw[if_pos rfl];exact h
def Same(H H':Hp):Prop:=∀b o,H b=some o->H' b=some o
theorem Same.refl(H:Hp):Same H H:=λ_ _ h=>h
theorem Same.trans{H H1 H2:Hp}(a:Same H H1)(b:Same H1 H2):Same H H2:=λc o h=>b c o<|a c o h
theorem Same.free{H H':Hp}(e:Same H H'){l:BF}(h:H' l=aNT):H l=aNT:=by
 cases q:H l with
 |none=>rfl
 |some o=>rw[e l o q] at h;cases h
theorem Same.seq{H H':Hp}{a:BF}{xs:List V}(e:Same H H')(h:SqL K H a xs):SqL K H' a xs:=by
 rcases h with(h|⟨o,h⟩)|h
 ·exact .inl (.inl<|e _ _ h)
 ·exact .inl<|.inr ⟨o,e _ _ h⟩
 ·exact .inr h
noncomputable def wE(X:Cx)(e:Expr):TE:=λσ H Q=>∀ (pins:List (BF×BI)) (s:BE),Inv X pins σ H s->AK (AG X.prog X.w) X.A (eval e X.env) (EP X pins σ Q) X.xe s
noncomputable def wT(X:Cx)(e:Expr):TT:=λσ H Q=>∀ (pins:List (BF×BI)) (s:BE),Inv X pins σ H s->AK (AG X.prog X.w) X.A (isTrue e X.env<|eval e X.env) (TP X pins σ Q) X.xe s
noncomputable def wW(X:Cx)(e:Expr):TT:=λσ H Q=>∀ (whole:Sem BD) (pins:List (BF×BI)) (s:BE),Inv X pins σ H s->AK (AG X.prog X.w) X.A (isTrue e X.env whole) (TP X pins σ Q) X.xe s
noncomputable def wA(X:Cx)(es:List Expr):TA:=λσ H Q=>∀ (pos:Pos) (pins:List (BF×BI)) (s:BE),Inv X pins σ H s->AK (AG X.prog X.w) X.A (spliced (Aa pos<|AB es X.env)) (AP X pins σ Q) X.xe s
noncomputable def wS(X:Cx)(st:BJ):TS:=λD σ H=>∀ (pins:List (BF×BI)) (s:BE),Inv X pins σ H s->AK (AG X.prog X.w) X.A (exec st X.env) (SP X pins D) X.xe s
noncomputable def wSs(X:Cx)(sts:List BJ):TS:=λD σ H=>∀ (pins:List (BF×BI)) (s:BE),Inv X pins σ H s->AK (AG X.prog X.w) X.A (execs sts X.env) (SP X pins D) X.xe s
noncomputable def wG(X:Cx)(tg:Expr):TG:=λv σ H Q=>∀ (pins:List (BF×BI)) (s:BE) (u:BD),Inv X pins σ H s->RelV v u->
  AK (AG X.prog X.w) X.A (assign tg X.env u) (λ_ s'=>∃σ' H',Inv X pins σ' H' s'/\Q σ' H') X.xe s
noncomputable def wI(X:Cx)(tg iter:Expr):TI:=λσ H R=>∀ (pins:List (BF×BI)) (s:BE),Inv X pins σ H s->
  AK (AG X.prog X.w) X.A (eval iter X.env) (λv s1=>AK (AG X.prog X.w) X.A (pyIter v) (PIE X pins σ tg R) X.xe s1) X.xe s
variable {e:Expr}{es:List Expr}{st:BJ}{sts:List BJ}{tg iter:Expr}{σ:St}{H:Hp}
theorem eR:PE X e (wE X e):=λpins s _ _ _ I h=>h pins s I
theorem aHv:PT X e (wT X e):=λpins s _ _ _ I h=>h pins s I
theorem aOf:PW X e (wW X e):=λw pins s _ _ _ I h=>h w pins s I
theorem qT:PA X es (wA X es):=λpos pins s _ _ _ I h=>h pos pins s I
theorem aPn:PS X st (wS X st):=λpins s _ _ _ I h=>h pins s I
theorem pss_w:PSs X sts (wSs X sts):=λpins s _ _ _ I h=>h pins s I
theorem aOo:PG X tg (wG X tg):=λpins s _ _ _ u _ I r h=>h pins s u I r
theorem aPo:PI X tg iter (wI X tg iter):=λpins s _ _ _ I h=>h pins s I
theorem PE.to{t:TE}{Q:VK}(h:PE X e t)(q:t σ H Q):wE X e σ H Q:=λpins s I=>h pins s σ H Q I q
theorem PT.to{t:TT}{Q:Bool->Hp->Prop}(h:PT X e t)(q:t σ H Q):wT X e σ H Q:=λpins s I=>h pins s σ H Q I q
theorem PW.to{t:TT}{Q:Bool->Hp->Prop}(h:PW X e t)(q:t σ H Q):wW X e σ H Q:=λw pins s I=>h w pins s σ H Q I q
theorem PA.to{t:TA}{Q:List V->Hp->Prop}(h:PA X es t)(q:t σ H Q):wA X es σ H Q:=λpos pins s I=>h pos pins s σ H Q I q
theorem PS.to{t:TS}{D:sN}(h:PS X st t)(q:t D σ H):wS X st D σ H:=λpins s I=>h pins s σ H D I q
theorem PSs.to{t:TS}{D:sN}(h:PSs X sts t)(q:t D σ H):wSs X sts D σ H:=λpins s I=>h pins s σ H D I q
theorem wE.imp{Q Q':VK}(h:wE X e σ H Q)(k:∀v H',Q v H'->Q' v H'):wE X e σ H Q':=λpins s I=>thn (h pins s I) λu s' ⟨v,H',I',r,q⟩=>⟨v,H',I',r,k v H' q⟩
theorem wT.imp{Q Q':Bool->Hp->Prop}(h:wT X e σ H Q)(k:∀v H',Q v H'->Q' v H'):wT X e σ H Q':=λpins s I=>thn (h pins s I) λu s' ⟨H',I',q⟩=>⟨H',I',k u H' q⟩
theorem wW.imp{Q Q':Bool->Hp->Prop}(h:wW X e σ H Q)(k:∀v H',Q v H'->Q' v H'):wW X e σ H Q':=λw pins s I=>thn (h w pins s I) λu s' ⟨H',I',q⟩=>⟨H',I',k u H' q⟩
theorem wA.imp{Q Q':List V->Hp->Prop}(h:wA X es σ H Q)(k:∀v H',Q v H'->Q' v H'):wA X es σ H Q':=λpos pins s I=>thn (h pos pins s I) λu s' ⟨v,H',I',r,q⟩=>⟨v,H',I',r,k v H' q⟩
theorem SP.imp{pins:List (BF×BI)}{D D':sN}{f:Flow}{s:BE}(h:SP X pins D f s)(k1:∀σ H,D.nx σ H->D'.nx σ H)(k2:∀v H,D.rt v H->D'.rt v H)(k3:∀σ H,D.bk σ H->D'.bk σ H)(k4:∀σ H,D.ct σ H->D'.ct σ H):SP X pins D' f s:=by
 cases f with
 |next=>obtain⟨σ',H',I,q⟩:=h;exact⟨σ',H',I,k1 _ _ q⟩
 |brk=>obtain⟨σ',H',I,q⟩:=h;exact⟨σ',H',I,k3 _ _ q⟩
 |cont=>obtain⟨σ',H',I,q⟩:=h;exact⟨σ',H',I,k4 _ _ q⟩
 |ret u=>obtain⟨v,σ',H',I,r,q⟩:=h;exact⟨v,σ',H',I,r,k2 _ _ q⟩
theorem wSs.imp{D D':sN}(h:wSs X sts D σ H)(k1:∀σ H,D.nx σ H->D'.nx σ H)(k2:∀v H,D.rt v H->D'.rt v H)(k3:∀σ H,D.bk σ H->D'.bk σ H)(k4:∀σ H,D.ct σ H->D'.ct σ H):wSs X sts D' σ H:=
 λpins s I=>thn (h pins s I) λf s' q=>q.imp k1 k2 k3 k4
theorem wG.imp{v:V}{Q Q':St->Hp->Prop}(h:wG X tg v σ H Q)(k:∀σ' H',Q σ' H'->Q' σ' H'):wG X tg v σ H Q':=λpins s u I r=>thn (h pins s u I r) λ_ s' ⟨σ',H',I',q⟩=>⟨σ',H',I',k _ _ q⟩
variable {pins:List (BF×BI)}{F:Hp}{s:BE}
theorem HOk.track{h:BH}{a:BF}{o:HO}(ok:HOk P w H h)(hn:H a=none)(new:ObjOk P w (upd H a o) h a o):HOk P w (upd H a o) h:=λb u e=>by
 by_cases hb:b=a
 ·subst hb;rw[bJ] at e;cases e;exact new
 ·rw[aR hb] at e;exact(ok b u e).stay (λ_ _ _ q=>q) (λc q=>by rw[aR<|cC q hn];exact q) λc xs q=>by rw[aR<|cC q hn];exact q
theorem Inv.track{a:BF}{o:HO}(I:Inv X pins σ H s)(hn:H a=none)(h0:X.s₀.heap.objs.size<=a)(hL:a≠X.env.locals)(hc:∀x c,X.env.cells.lookup x=some c->c≠a)
  (hp:∀p∈X.pn++pins,p.1≠a) (new:ObjOk X.prog X.w (upd H a o) s.heap a o):Inv X pins σ (upd H a o) s:=by
 refine⟨I.ok,I.os,I.bare,⟨I.base.keep,I.base.slot,λb u e n hx=> ?_,I.base.there,λb xs e=> ?_,λb u xs e=> ?_,λb ps e=> ?_⟩,I.loc,I.cell, ?_,λx c e=> ?_,λp hp'=> ?_,I.hok.track hn new,I.len⟩
 ·rw[aR (bQ<|aS (aP e) h0)];exact I.base.free b u e n hx
 ·have q:=I.base.tups b xs e;rw[aR<|cC q hn];exact q
 ·have q:=I.base.frzs b u xs e;rw[aR<|cC q hn];exact q
 ·obtain⟨m,q⟩:=I.base.tbls b ps e;exact⟨m,by rw[aR<|cC q hn];exact q⟩
 ·rw[aR<|Ne.symm hL];exact I.free
 ·rw[aR<|hc x c e];exact I.freeC x c e
 ·obtain⟨e,n,r⟩:=I.pin p hp';exact⟨e,by rw[aR<|hp p hp'];exact n,r⟩
noncomputable def aNI:HO->Prop
 |.lst _=>True
 |.tup _=>True
 |.dK _=>True
 |.frz _ (.lst _)=>True
 |.frz _ (.dK _)=>True
 |.ext _=>True
 |_=>False
def Smp(H:Hp):Prop:=∀b o,H b=some o->aNI o
theorem ObjOk.smp{h:BH}{a:BF}{o:HO}(z:aNI o)(x:ObjOk P w H h a o):ObjOk P w F h a o:=by
 cases o with
 |lst xs=>exact x
 |tup xs=>exact x
 |dK kvs=>exact x
 |frz ob u=>cases u with
  |lst xs=>exact x
  |dK kvs=>exact x
  |_=>exact absurd z λq=>q
 |ext φ=>exact x
 |_=>exact absurd z λq=>q
theorem Smp.sub(h:Smp H)(s:Same F H):Smp F:=λb o e=>h b o<|s b o e
theorem Inv.less(I:Inv X pins σ H s)(hF:Same F H)(h0:Same X.B₀ F)(hs:Smp F):Inv X pins σ F s:=by
 refine⟨I.ok,I.os,I.bare,⟨I.base.keep,I.base.slot,λb u e n hx=>hF.free<|I.base.free b u e n hx,I.base.there,λb xs e=>h0 _ _<|X.hB _ _ e trivial,λb u xs e=>h0 _ _<|X.hB _ _ e trivial,λb ps e=>⟨#[], ?_⟩⟩,I.loc,I.cell,hF.free I.free,λx c e=>hF.free<|I.freeC x c e,λp hp=> ?_,λb o e=>(I.hok b o<|hF b o e).smp<|hs b o e,I.len⟩
 ·have q:=h0 _ _<|X.hB _ _ e trivial;rw[q];simp
 ·obtain⟨e,n,r⟩:=I.pin p hp;exact⟨e,hF.free n,r⟩
noncomputable def clo(cells:List (Str×BF)):List (Str×NameKind)->List (Str×BF)->List (Str×BF)
 |[],cs=>cs
 |(n,k)::r,cs=>clo cells r (if(k==NameKind.free)=true then(n,(cells.lookup n).getD 0)::cs else cs)
theorem pM{env:Env}:∀ (names:List (Str×NameKind)) (cs:List (Str×BF)),(∀y∈names,y.2=.free->∃c,env.cells.lookup y.1=some c)->
  (forIn names cs (λ(x:Str×NameKind) (r:List (Str×BF))=>if(x.2==NameKind.free)=true then(do let c <-cellOf env x.1;pure (ForInStep.yield ((x.1,c)::r))) else pure (ForInStep.yield r)):Sem (List<|Str×BF))=pure (clo env.cells names cs)
 |[],cs,_=>rfl
 |(n,k)::r,cs,h=>by
  rw[List.forIn_cons]
  by_cases hk:(k==NameKind.free)=true
  ·obtain⟨c,hc⟩:=h (n,k) aG (by simpa using hk)
   have e:cellOf env n=pure c:=by unfold cellOf;have hc':env.cells.lookup n=some c:=hc;rw[hc']
   simp only[hk,if_true,e,pure_bind,clo];have hc':env.cells.lookup n=some c:=hc;rw[hc'];exact pM r _ λy hy=>h y<|aE _ hy
  ·simp only[hk,bZ,if_false,pure_bind,clo];exact pM r _ λy hy=>h y<|aE _ hy
theorem aCe{env:Env}{scope:Scope}(h:∀y∈scope.names,y.2=.free->∃c,env.cells.lookup y.1=some c):closureFor scope env=pure (clo env.cells scope.names []):=by simp only[closureFor];have e:=pM (env:=env) scope.names [] h;simp only[bind_pure] ;exact e
theorem aBb(cells:List (Str×BF)):∀ (names:List (Str×NameKind)) (cs:List (Str×BF)) (x:Str) (c:BF),(clo cells names cs).lookup x=some c->cs.lookup x=some c\/((x,NameKind.free)∈names/\c=(cells.lookup x).getD 0)
 |[],cs,x,c,h=>.inl h
 |(n,k)::r,cs,x,c,h=>by
  rcases aBb cells r _ x c h with q|⟨q1,q2⟩
  ·by_cases hk:(k==NameKind.free)=true
   ·rw[if_pos hk,dS] at q;have ek:k=.free:=by simpa using hk
    by_cases hx:(x==n)=true
    ·simp only[hx] at q;have e:x=n:=by simpa using hx
     subst e;exact .inr ⟨by rw[ek];exact aG,(bM.inj q).symm⟩
    ·have hx':(x==n)=false:=by simpa using hx
     simp only[hx'] at q;exact .inl q
   ·rw[if_neg hk] at q;exact .inl q
  ·exact .inr ⟨aE _ q1,q2⟩
theorem aEf(cells:List (Str×BF)):∀ (names:List (Str×NameKind)) (cs:List (Str×BF)) (x:Str),(x,NameKind.free)∈names\/(∃c,cs.lookup x=some c)->∃c,(clo cells names cs).lookup x=some c
 |[],cs,x,h=>h.elim (λz=>nomatch z) λz=>z
 |(n,k)::r,cs,x,h=>by
  refine aEf cells r _ x ?_
  by_cases hk:(k==NameKind.free)=true
  ·rw[if_pos hk]
   by_cases hx:(x==n)=true
   ·exact .inr ⟨(cells.lookup n).getD 0,by rw[dS];simp only[hx]⟩
   ·have hx':(x==n)=false:=by simpa using hx
    rcases h with q|⟨c,q⟩
    ·rcases bA.mp q with z|z
     ·cases z;exact absurd (by simp) hx
     ·exact .inl z
    ·exact .inr ⟨c,by rw[dS];simp only[hx'];exact q⟩
  ·rw[if_neg hk]
   rcases h with q|q
   ·rcases bA.mp q with z|z
    ·cases z;exact absurd rfl hk
    ·exact .inl z
   ·exact .inr q
theorem qH{env:Env}:∀ {names:List (Str × NameKind)} {x:Str},((names.map fun (n,k)=>if (k==NameKind.free && env.scope.kind== .function && env.kindOf n==some .cell) then (n,NameKind.cell) else (n,k)).lookup x=some .cell∨
   (names.map λ(n,k)=>if(k==NameKind.free&&env.scope.kind==.function&&env.kindOf n==some .cell) then(n,NameKind.cell) else(n,k)).lookup x=some .free)->names.lookup x=some .cell\/names.lookup x=some .free
 |[],x,h=>by simp at h
 |(n,k)::r,x,h=>by
  have ih:= @qH env r x;rw[aW] at h;rw[dS]
  by_cases hc:(k==NameKind.free&&env.scope.kind==.function&&env.kindOf n==some .cell)=true
  ·simp only[hc,if_true,dS] at h;cases hx:x==n with
   |true=>
    have hk:k=.free:=by have:=hc;simp only[bO,beq_iff_eq] at this;exact this.1.1
    exact .inr (by rw[hk])
   |false=>simp only[hx] at h ⊢;exact ih h
  ·have hc':(k==NameKind.free&&env.scope.kind==.function&&env.kindOf n==some .cell)=false:=by simpa using hc
   simp only[hc',bZ,if_false,dS] at h;cases hx:x==n with
   |true=>simp only[hx] at h ⊢;exact h
   |false=>simp only[hx] at h ⊢;exact ih h
theorem aEy{prog:AE}{A:BG}{R:Result->BE->Prop}{elt target:Expr}{ifs:List Expr}{scope:Scope}{pos:Pos}{it acc:BD}{env:Env}(Ξ:BD->BE->Prop)(hΞ:∀e s,Ξ e s->notedBy (AG prog w) A env (λe s'=>R (.error e) s') e s)(J:Nat->BE->Prop)
  (turn:∀n s,J n s→AK (AG prog w) A (pyNext it) (fun r s₁=>match r with
   |none=>R (.ok .next) s₁
   | some v=>AK (AG prog w) A (letOwnedTupleGo target it v) (fun _ s₂=>AK (AG prog w) A (assign target env v) (fun _ s₃=>
     AK (AG prog w) A (forIn ifs true fun c r=>if r=true then do let ok ← isTrue c env (eval c env); pure (ForInStep.yield ok) else pure (ForInStep.yield r)) (fun ok s₄=>
      if ok=true then AK (AG prog w) A (eval elt env) (λx s₅=>AK (AG prog w) A (call (.builtin "list.append") [acc,x]) (λ_ s₆=>∃m,m<n/\J m s₆) Ξ s₅) Ξ s₄
      else ∃m,m<n/\J m s₄) Ξ s₃) Ξ s₂) Ξ s₁) Ξ s)
  (n:Nat) (h:J n s):Az (AG prog w) A (.compLoop (.ListComp elt [⟨target,iter,ifs,0⟩] scope pos) 0 it acc env) R s:=by
 refine codeAny_loop rfl J (λn s hI=> ?_) n h;show AK _ A ((compTurn (.ListComp elt [⟨target,iter,ifs,0⟩] scope pos) 0 it acc env).onRaise λx=>do noteFrame x env;theTreesLotGoes x) _ _ s;refine wpAny_noted ?_;rw[compTurn_list];refine AA<|wpAny_standAt (AA<|AX (turn n s hI) (λr s₁ h₁=> ?_) λe s z=>hΞ e s z);cases r with
 |none=>exact AC h₁
 |some v=>
  refine AA<|AX h₁ (λ_ s₂ h₂=> ?_) λe s z=>hΞ e s z;refine AA<|AX h₂ (λ_ s₃ h₃=> ?_) λe s z=>hΞ e s z;refine AA<|AX h₃ (λok s₄ h₄=> ?_) λe s z=>hΞ e s z;cases ok with
  |false=>exact AC ⟨rfl,h₄⟩
  |true=>exact AA (AA<|AX h₄ (λx s₅ h₅=>AA<|AX h₅ (λ_ s₆ h₆=>AC<|AC ⟨rfl,h₆⟩) λe s z=>hΞ e s z) λe s z=>hΞ e s z)
noncomputable def aOh(X:Cx)(ifs:List Expr):TT:=λσ H Q=>∀ (pins:List (BF×BI)) (s:BE),Inv X pins σ H s->
 AK (AG X.prog X.w) X.A (forIn ifs true λc r=>if r=true then do let ok <-isTrue c X.env (eval c X.env);pure (ForInStep.yield ok) else pure (ForInStep.yield r)) (TP X pins σ Q) X.xe s
theorem aGH{Q:Bool->Hp->Prop}(h:Q true H):aOh X [] σ H Q:=λ_ _ I=>wpAny_tests_nil ⟨H,I,h⟩
theorem aGI{c:Expr}{Q:Bool->Hp->Prop}(h:wT X c σ H Q):aOh X [c] σ H Q:=λpins s I=>wpAny_tests_one<|h pins s I
noncomputable def cxB(X:Cx)(N:List Str)(scope:Scope)(cl:List (Str×BF))(C:BF)(ex:List BF)(s:BE)(H:Hp):Cx:=
 {prog:=X.prog,w:=X.w,K:=X.K,mg:=X.mg,base:=X.base,A:=X.A,N:=N,s₀:=s,H₀:=H,env:=compEnvC scope cl C X.env,outer:=X.stack,stack:=X.stack,ex:=ex,fn:=λ_=>false,calm:=true,pn:=[],xe:=λ_ _=>False}
noncomputable def pC(X:Cx)(N:List Str)(scope:Scope)(cl:List (Str×BF))(C:BF)(ex:List BF)(s:BE)(H:Hp)(ξ:BD->BE->Prop):Cx:={cxB X N scope cl C ex s H with xe:=ξ}
noncomputable def xK(cap:List (Option Nat))(σ:St):St:=cap.map λo=>o.bind λk=>(σ[k]?).join
noncomputable def oY(scope sc:Scope):Bool:=scope.names.all λy=>(!(y.2==NameKind.free)||sc.names.lookup y.1==some NameKind.cell)&&!(y.2==NameKind.cell)&&(!(y.2==NameKind.local)||scope.names.lookup y.1==some NameKind.local)
noncomputable def mE(N M:List Str)(scope sc:Scope)(cap:List (Option Nat)):Bool:=cap.length==N.length&&(cap.zip N).all λy=>match y.1 with
 |none=>true
 |some k=>M[k]? ==some y.2&&sc.names.lookup y.2==some NameKind.cell&&scope.names.lookup y.2==some NameKind.free
theorem iK{env:Env}(hf:env.scope.kind=.function):∀ {names:List (Str×NameKind)}{x:Str},names.lookup x=some .free->env.kindOf x=some .cell->
  (names.map λ(n,k)=>if(k==NameKind.free&&env.scope.kind==.function&&env.kindOf n==some .cell) then(n,NameKind.cell) else(n,k)).lookup x=some .cell
 |[],x,h,_=>by simp at h
 |(n,k)::r,x,h,hc=>by
  rw[aW];cases hx:x==n with
  |true=>
   have e:x=n:=by simpa using hx
   subst e;rw[dS] at h;simp only[beq_self_eq_true] at h;have ek:k=.free:=bM.inj h;subst ek;have hb:(NameKind.free==NameKind.free&&env.scope.kind==.function&&env.kindOf x==some .cell)=true:=by rw[hf,hc];rfl
   show iF x ((if(NameKind.free==NameKind.free&&env.scope.kind==.function&&env.kindOf x==some .cell)=true then(x,NameKind.cell) else(x,NameKind.free))::_)=_;rw[if_pos hb,dS];simp only[beq_self_eq_true]
  |false=>
   rw[dS] at h;simp only[hx] at h;have ih:=iK hf (names:=r) h hc
   by_cases hb:(k==NameKind.free&&env.scope.kind==.function&&env.kindOf n==some .cell)=true
   ·simp only[hb,if_true,dS,hx];exact ih
   ·have hb':(k==NameKind.free&&env.scope.kind==.function&&env.kindOf n==some .cell)=false:=by simpa using hb
    simp only[hb',bZ,if_false,dS,hx];exact ih
theorem Inv.low(I:Inv X pins σ H s):∀b∈frs X.stack,b<s.heap.objs.size:=λb hb=>by obtain⟨_,o,ho,_⟩:=I.stack.mem hb;exact aP ho
theorem aEN{elt:Expr}{ifs:List Expr}{scope:Scope}{pos:Pos}{N:List Str}{cap:List (Option Nat)}{g:TG}{tt:TT}{te:TE}{J:It}{fp:List BF}{it:BF}{tn:Nat->BH->Prop}{E:BD->BE->Prop}{sc:Scope}(ξ:List (Str×BF)->BF->BD->BE->Prop)(ξ':List (Str×BF)->BF->BD->Hp->BE->Prop)
  (hc:X.calm=true) (hsc:X.env.scope=sc) (hcn:oY scope sc=true) (hcap:mE N X.N scope sc cap=true) (hk:scope.kind=.function)
  (I:Inv X pins σ H s) (T:aIG X.prog X.w X.K tg J fp it tn) (st:tn 0 s.heap) (hfp:∀b∈fp,uL X pins H b)
  (hg:∀cl C,PG (pC X N scope cl C fp s H<|ξ cl C) tg g) (ht:∀cl C pi s2 σ2 H2 Q,Inv (pC X N scope cl C fp s H<|ξ cl C) pi σ2 H2 s2->tt σ2 H2 Q->AK (AG X.prog X.w) X.A (forIn ifs true λc r=>if r=true then do let ok <-isTrue c (compEnvC scope cl C X.env) (eval c<|compEnvC scope cl C X.env);pure (ForInStep.yield ok) else pure (ForInStep.yield r)) (TP (pC X N scope cl C fp s H<|ξ cl C) pi σ2 Q) (ξ cl C) s2)
  (he:∀cl C,PE (pC X N scope cl C fp s H<|ξ cl C) elt te) (W:Nat->Nat->List V->St->Hp->Prop) (m0:Nat) (w0:W 0 m0 [] (xK cap σ) H)
  (RR:BD->BF->Result->BE->Prop)
  (hξ:∀cl C e s',ξ cl C e s'->∃pi σb H',Inv (pC X N scope cl C fp s H<|ξ cl C) pi σb H' s'/\ξ' cl C e H' s')
  (hx:∀cl D C e H' s',ξ' cl C e H' s'->H' C=none->X.s₀.heap.objs.size<=C->C≠X.env.locals->(∀x c,X.env.cells.lookup x=some c->c≠C)->(∀p∈X.pn++pins,p.1≠C)->C∉frs X.stack->(∃m,s'.heap.Ns C m)->Inv X pins σ H' s'->notedBy (AG X.prog X.w) X.A (compEnvC scope cl C X.env) (λe s''=>RR (.ref D) C (.error e) s'') e s')
  (turn:∀i m ys σb H2,W i m ys σb H2→
   (J.stop i H2/\∀D C s',H2 D=none->H2 C=none->D≠C->X.s₀.heap.objs.size<=C->C≠X.env.locals->(∀x c,X.env.cells.lookup x=some c->c≠C)->(∀p∈X.pn++pins,p.1≠C)->C∉frs X.stack->(∃m,s'.heap.Ns C m)->Inv X pins σ (upd H2 D<|.lst ys) s'->RR (.ref D) C (.ok .next) s')\/
   (J.go i H2∧ys.length<AM∧∃Nx:List V→St→Hp→Prop,(∀ys' σ' H',Nx ys' σ' H'→∃m',m'<m∧W (i+1) m' ys' σ' H')∧
    ∀x H',J.yld i H2 x H'->g x σb H' λσ2 H3=>tt σ2 H3 λb H4=>if b=true then te σ2 H4 λv H5=>Nx (ys++[v]) σ2 H5 else Nx ys σ2 H4)):
  AK (AG X.prog X.w) X.A (newList []) (fun acc s₃=>AK (AG X.prog X.w) X.A (newFunctionEnv scope X.env.globals (clo X.env.cells scope.names []) [] X.env.qual none .none (some X.env)) (fun cenv s₄=>
   Az (AG X.prog X.w) X.A (.compStart (.ListComp elt [⟨tg,iter,ifs,0⟩] scope pos) 0 (.ref it) acc {cenv with scope:=relabel scope X.env}) (RR acc cenv.locals) s₄) E s₃) E s:=by
 have nm:∀y∈scope.names,(y.2=NameKind.free->sc.names.lookup y.1=some NameKind.cell)/\y.2≠NameKind.cell/\(y.2=NameKind.local->scope.names.lookup y.1=some NameKind.local):=λy hy=>by have q:=iL.mp hcn y hy;simp only[bO,xC,sJ,beq_eq_false_iff_ne,ne_eq,beq_iff_eq] at q;exact⟨λe=>q.1.1.resolve_left λz=>z e,q.1.2,λe=>q.2.resolve_left λz=>z e⟩
 have fre:∀y∈scope.names,y.2=.free->∃c,X.env.cells.lookup y.1=some c:=λy hy e=>I.ok.has y.1 (.inl<|by show X.env.scope.names.lookup y.1=_;rw[hsc];exact(nm y hy).1 e)
 generalize hcl:clo X.env.cells scope.names []=cl
 have csub:∀x c,cl.lookup x=some c->X.env.cells.lookup x=some c:=λx c e=>by
  rw[<-hcl] at e
  rcases aBb _ _ _ _ _ e with z|⟨z1,z2⟩
  ·simp at z
  ·obtain⟨c',q⟩:=fre _ z1 rfl;rw[q] at z2;rw[q,z2];rfl
 have chas:∀x,((relabel scope X.env).names.lookup x=some .cell\/(relabel scope X.env).names.lookup x=some .free)->∃c,cl.lookup x=some c:=λx e=>by
  rcases qH e with z|z
  ·exact absurd rfl (nm _<|PySem.mem_of_lookup z).2.1
  ·rw[<-hcl];exact aEf _ _ _ _ (.inl<|PySem.mem_of_lookup z)
 have cexi:∀x c,cl.lookup x=some c->c<s.heap.objs.size:=λx c e=>by obtain⟨v,o,ho,_⟩:=I.cell x c<|csub x c e;exact aP ho
 have cexX:∀x c,X.env.cells.lookup x=some c->c<s.heap.objs.size:=λx c e=>by obtain⟨v,o,ho,_⟩:=I.cell x c e;exact aP ho
 have pexX:∀p∈X.pn++pins,p.1<s.heap.objs.size:=λp hp=>aP (I.pin p hp).1
 have flow:∀b∈fp,b<s.heap.objs.size:=λb hb=>by obtain⟨o,ho,_⟩:=T.obj 0 _ st b hb;exact aP ho
 have fstk:∀b∈fp,b∉frs X.stack:=λb hb z=>by
  obtain⟨_,f1,f2,_⟩:=hfp b hb
  rcases bA.mp (I.stkSub b z) with q|q
  ·exact f1 q
  ·exact f2 q
 have hkr:(relabel scope X.env).kind=.function:=hk;refine AV<|wpAny_newFunctionEnv (λy hy=>(nm y hy).2.1) (by intro y hy;simp at hy) (λh₁ hns₁ hsb₁=> ?_) hk;dsimp only at hns₁ hsb₁ ⊢;generalize hH2:s.heap.push {cls:=.type "list",dict:=none,data:=.seq ([]:List BD).toArray}=G2 at hns₁ hsb₁ ⊢;have hC:G2.objs.size=s.heap.objs.size+1:=by rw[<-hH2,lR]
 have hDC:s.heap.objs.size≠G2.objs.size:=by rw[hC];exact bQ<|gG _
 have hCle:s.heap.objs.size<=G2.objs.size:=by rw[hC];exact gM _
 have neC:∀b,b<s.heap.objs.size->b≠G2.objs.size:=λb hb=>by rw[hC];exact bQ<|mR hb
 have old:∀b o,s.heap.get? b=some o->h₁.get? b=some o:=λb o e=>hsb₁.extBut b o (neC b<|aP e) (aF _<|hH2▸aF _ e)
 have hacc:h₁.get? s.heap.objs.size=some {cls:=.type "list",dict:=none,data:=.seq ([]:List BD).toArray}:=hsb₁.extBut _ _ hDC (aF _<|hH2▸bN _ rfl);have env_eq:({newEnv scope G2.objs.size X.env.globals cl X.env.qual none .none (some X.env) 0 with scope:=relabel scope X.env}:Env)=compEnvC scope cl G2.objs.size X.env:=rfl;generalize hDD:s.heap.objs.size=D at *;generalize hCC:G2.objs.size=C at *
 have okX:(pC X N scope cl C fp s H<|ξ cl C).Ok:=by
  refine⟨I.mod,hkr,I.ok.glob,I.ok.blt, ?_,λx y c a b=>I.ok.inj x y c (csub x c a)<|csub y c b,chas,(λx c z=>nomatch z),λ_=>I.ok.hd hc,I.ok.frames,.inl rfl,λb hb=>⟨neC b<|flow b hb,λx c e=>(hfp b hb).2.2.2.2.1 x c<|csub x c e⟩,I.bs, ?_,λb o e hb=> ?_,fstk,I.stack,I.stkFree⟩
  ·show s.heap.objs.size<=C;rw[hDD];exact hCle
  ·exact cD I.ok.bsz I.sz
  ·rcases(hfp b hb).2.2.2.1 with z|z
   ·exact I.ok.noex b o e z
   ·exact absurd (aS (aP e)<|cD I.ok.bsz z)<|eD _
 have capE:∀ (i:Nat) (x:Str) (v:V),N[i]? =some x->(xK cap σ)[i]? =some (some v)->∃k:Nat,X.N[k]? =some x/\σ[k]? =some (some v)/\sc.names.lookup x=some .cell/\scope.names.lookup x=some .free:=λi x v e1 e2=>by
  unfold mE at hcap;rw[bO] at hcap;unfold xK at e2;rw[aZ] at e2;cases q:cap[i]? with
  |none=>rw[q] at e2;cases e2
  |some o=>
   rw[q] at e2;have e2:(o.bind λk=>(σ[k]?).join)=some v:=bM.inj e2;cases o with
   |none=>cases e2
   |some k=>
    have e2:(σ[k]?).join=some v:=e2
    have mz:(some k,x)∈cap.zip N:=by refine aY (i:=i) ?_;rw[aAd];exact⟨q,e1⟩
    have z:=iL.mp hcap.2 _ mz;simp only[bO,beq_iff_eq] at z;refine⟨k,z.1.1, ?_,z.1.2,z.2⟩;cases w:σ[k]? with
    |none=>rw[w] at e2;cases e2
    |some o'=>rw[w] at e2;have e2:o'=some v:=e2;rw[e2]
 have I0:Inv (pC X N scope cl C fp s H<|ξ cl C) [(D,{cls:=.type "list",dict:=none,data:=.seq ([]:List BD).toArray})] (xK cap σ) H {s with heap:=h₁,toks:=s.toks+([]:List (Str×BD)).length}:=by
  have dfree:H D=none:=I.hok.fresh<|sT hDD;refine⟨okX,rfl,I.bare,Un.kept old,⟨_,hns₁,λi x v e1 e2 e3=> ?_⟩,λx c e=> ?_,I.hok.fresh (by rw[hDD];exact hCle),λx c e=>I.freeC x c<|csub x c e,λp hp=> ?_,I.hok.kept old, ?_⟩
  ·obtain⟨k,q1,q2,q3,q4⟩:=capE i x v e1 e2;have q3':X.env.scope.names.lookup x=some .cell:=by rw[hsc];exact q3
   obtain⟨m,_,hl⟩:=I.loc;obtain⟨u,ru,lk⟩:=hl k x v q1 q2 (.inr<|.inl q3');refine⟨u,ru,.inr ⟨.inl<|iK I.ok.kind q4 q3', ?_⟩⟩
   rcases lk with⟨z,_⟩|⟨_,c,z,ic⟩
   ·have z':X.env.scope.names.lookup x=some .local:=z;rw[q3'] at z';cases z'
   ·obtain⟨c',hc'⟩:=chas x (.inl<|iK I.ok.kind q4 q3');have:=csub x c' hc';rw[z] at this;have ec:c=c':=bM.inj this;subst ec;obtain⟨o,ho,hd⟩:=ic;exact⟨c,hc',o,old c o ho,hd⟩
  ·obtain⟨v,o,ho,hd⟩:=I.cell x c<|csub x c e;exact⟨v,o,old c o ho,hd⟩
  ·have hp':p=(D,{cls:=.type "list",dict:=none,data:=.seq ([]:List BD).toArray}):=by simpa[pC,cxB] using hp
   subst hp';refine⟨hacc,dfree,hDC,λz=> ?_,λv z=>by cases z⟩;have:=I.low D z;rw[hDD] at this;exact eD _ this
  ·show(xK cap σ).length=N.length;unfold mE at hcap;rw[bO] at hcap;unfold xK;rw[aC];simpa using hcap.1
 have dlow:∀b,b<D->b≠D:=λb hb=>bQ hb
 have loop:∀s₃:BE,s₃={s with heap:=h₁,toks:=s.toks+([]:List (Str×BD)).length}->
   Az (AG X.prog X.w) X.A (.compLoop (.ListComp elt [⟨tg,iter,ifs,0⟩] scope pos) 0 (.ref it) (.ref D)<|compEnvC scope cl C X.env) (RR (.ref D) C) s₃:=by
  rintro s₃ rfl
  refine aEy (ξ cl C) (λe s' z=> ?_) (λn s'=>∃ (i:Nat) (ys:List V) (σb:St) (H2:Hp) (its:List BD) (nn:Nat),Inv (pC X N scope cl C fp s H<|ξ cl C) [(D,{cls:=.type "list",dict:=none,data:=.seq its.toArray nn})] σb H2 s'/\tn i s'.heap/\(∀b∈fp,H2 b=none)/\Vals ys its/\ys.length<=AM/\W i n ys σb H2) ?_ m0
   ⟨0,[],xK cap σ,H,[],0,I0,T.keep 0 _ _ st λb hb o e=>old b o e,λb hb=>(hfp b hb).1,.nil,cQ _,w0⟩
  ·obtain⟨pi,σb,H',I',z'⟩:=hξ cl C e s' z;obtain⟨m4,ns4,_⟩:=id I'.loc;have J0:Inv X pins σ H' s':=I.call' (ch:=fp) I'.os I'.base I'.hok I'.bare λb hb=>⟨(hfp b hb).2.2.2.1,(hfp b hb).2.1,(hfp b hb).2.2.2.2.1,(hfp b hb).2.2.2.2.2⟩
   have hLD:X.env.locals<D:=by rw[<-hDD];exact I.lt
   exact hx cl D C e H' s' z' I'.free (cD I.sz<|by rw[hDD];exact hCle) (jR<|aS hLD hCle) (λx c e=>neC c<|cexX x c e) (λp hp=>neC _<|pexX p hp) (λz=>absurd (I.low C z)<|by rw[hDD];exact oH.mpr hCle) ⟨m4,ns4⟩ J0
  rintro n s3 ⟨i,ys,σ3,H3,its,nn,I3,st3,fr3,rv3,hlen,w3⟩
  have fpX:∀ {H':Hp}{its':List BD}{nn':Nat},(∀b∈fp,H' b=none)->∀b∈fp,uL (pC X N scope cl C fp s H<|ξ cl C) [(D,{cls:=.type "list",dict:=none,data:=.seq its'.toArray nn'})] H' b:=λ{H' its' nn'} hn b hb=>by
   refine⟨hn b hb,neC b<|flow b hb,fstk b hb,.inl hb,λx c e=>(hfp b hb).2.2.2.2.1 x c<|csub x c e,λp hp=> ?_⟩
   have hp':p.1=D:=by have q:p∈([]:List (BF×BI))++[(D,{cls:=.type "list",dict:=none,data:=.seq its'.toArray nn'})]:=hp;rw[xA,aH] at q;rw[q]
   rw[hp'];exact Ne.symm (dlow b<|flow b hb)
  rcases turn i n ys σ3 H3 w3 with⟨stop,fin⟩|⟨go,hsz,Nx,hN,step⟩
  ·refine thn (T.done (pC X N scope cl C fp s H<|ξ cl C) rfl rfl rfl rfl i _ s3 σ3 H3 (ξ cl C) I3 (fpX fr3) st3 stop) λr s4 ⟨hr,I4⟩=> ?_
   subst hr;obtain⟨m4,ns4,_⟩:=id I4.loc;have J0:Inv X pins σ H3 s4:=I.call' (ch:=fp) I4.os I4.base I4.hok I4.bare λb hb=>⟨(hfp b hb).2.2.2.1,(hfp b hb).2.1,(hfp b hb).2.2.2.2.1,(hfp b hb).2.2.2.2.2⟩
   obtain⟨pd,pn,_⟩:=I4.pin (D,_)<|aI _ aG;have hLD:X.env.locals<D:=by rw[<-hDD];exact I.lt
   refine fin D C s4 pn I4.free hDC (cD I.sz<|by rw[hDD];exact hCle) (jR<|aS hLD hCle) (λx c e=>neC c<|cexX x c e) (λp hp=>neC _<|pexX p hp) (λz=>absurd (I.low C z)<|by rw[hDD];exact oH.mpr hCle) ⟨m4,ns4⟩ ?_;refine J0.track pn (by rw[<-hDD];exact I.sz) (jR hLD) (λx c e=>dlow c<|cexX x c e) (λp hp=>dlow _<|pexX p hp) ?_;exact⟨hlen,its,nn,rv3,pd⟩
  ·refine thn (T.item (pC X N scope cl C fp s H<|ξ cl C) rfl rfl rfl rfl i _ s3 σ3 H3 (ξ cl C) I3 (fpX fr3) st3 go) λr s4 ⟨u,hr,h4⟩=> ?_
   subst hr;refine thn h4 λ_ s5 ⟨x,H5,I5,r5,y5,st5,fr5⟩=> ?_
   have I5':=I5.pinned (fpX fr5)<|T.obj _ _ st5;refine thn (hg cl C _ s5 σ3 H5 x u _ I5' r5<|step x H5 y5) λ_ s6 ⟨σ6,H6,I6,q6⟩=> ?_
   refine thn (ht cl C _ s6 σ6 H6 _ I6 q6) λb s7 ⟨H7,I7,q7⟩=> ?_
   have tnK:∀ {σ7:St}{H7:Hp}{s7:BE},Inv (pC X N scope cl C fp s H<|ξ cl C) ([(D,{cls:=.type "list",dict:=none,data:=.seq its.toArray nn})]++mW fp s5.heap) σ7 H7 s7->tn (i+1) s7.heap/\∀b∈fp,H7 b=none:=λ{σ7 H7 s7} I7=>by refine⟨T.keep _ _ _ st5 λb hb o e=>(I7.pin (b,o)<|aI _ (aI _<|iW hb e)).1,λb hb=> ?_⟩;obtain⟨o,e,d⟩:=T.obj _ _ st5 b hb;exact(I7.pin (b,o)<|aI _ (aI _<|iW hb e)).2.1
   cases b with
   |false=>have q7':Nx ys σ6 H7:=q7;obtain⟨m',hm,w7⟩:=hN _ _ _ q7';obtain⟨t7,f7⟩:=tnK I7;exact⟨m',hm,i+1,ys,σ6,H7,its,nn,I7.unpinned,t7,f7,rv3,hlen,w7⟩
   |true=>
    have q7':te σ6 H7 λv H5=>Nx (ys++[v]) σ6 H5:=q7
    refine thn (he cl C _ s7 σ6 H7 _ I7 q7') λy s8 ⟨v,H8,I8,r8,q8⟩=> ?_
    obtain⟨m',hm,w8⟩:=hN _ _ _ q8;obtain⟨pd,pn,pL,pf,pc⟩:=I8.pin (D,{cls:=.type "list",dict:=none,data:=.seq its.toArray nn}) (aI _<|bL _ aG);have hits:its.length=ys.length:=rv3.length.symm;refine wpAny_list_append_plain (items:=its.toArray) ⟨nn,pd⟩ (λh9 pl9 sb9=> ?_) (by rw[bC,hits];exact dA hsz);obtain⟨n9,e9⟩:=pl9
    have e9':h9.get? D=some {cls:=.type "list",dict:=none,data:=.seq (its++[y]).toArray n9}:=by rw[e9];simp
    have I8':Inv (pC X N scope cl C fp s H<|ξ cl C) (mW fp s5.heap) σ6 H8 s8:=I8.pins_of λp hp=>I8.pin p (aI _<|aI _ hp)
    have I9:Inv (pC X N scope cl C fp s H<|ξ cl C) (mW fp s5.heap) σ6 H8 {s8 with heap:=h9,toks:=s8.toks}:=I8'.turned (it:=D) (λb o hb e=>sb9.extBut b o hb e) pn hDC (.inr<|by rw[<-hDD];exact aJ _) (λx c e=>dlow c<|cexi x c e) λp hp=>by
     have hp':p∈mW fp s5.heap:=by simpa[pC,cxB] using hp
     exact dlow _<|flow _ (rX hp').1
    have tn9:tn (i+1) h9:=T.keep _ _ _ st5 λb hb o e=>(I9.pin (b,o) (aI _<|iW hb e)).1
    have fr9:∀b∈fp,H8 b=none:=λb hb=>by obtain⟨o,e,d⟩:=T.obj _ _ st5 b hb;exact(I9.pin (b,o) (aI _<|iW hb e)).2.1
    refine⟨m',hm,i+1,ys++[v],σ6,H8,its++[y],n9,I9.pins_of λp hp=> ?_,tn9,fr9,Vals.append rv3<|.cons r8 .nil,by rw[aN];exact hsz,w8⟩;have hp':p=(D,{cls:=.type "list",dict:=none,data:=.seq (its++[y]).toArray n9}):=aH.mp hp;subst hp';exact⟨e9',pn,pL,pf,λv z=>by cases z⟩
 exact codeAny_compStart_list (loop _ rfl) (T.self _ 0 _ _ _ (T.keep 0 _ _ st λb hb o e=>old b o e)<|loop _ rfl)
theorem aFX{elt:Expr}{ifs:List Expr}{scope:Scope}{pos:Pos}{N:List Str}{cap:List (Option Nat)}{g:TG}{tt:TT}{te:TE}{J:It}{fp:List BF}{it:BF}{tn:Nat->BH->Prop}{E:BD->BE->Prop}{sc:Scope}
  (hc:X.calm=true) (hsc:X.env.scope=sc) (hcn:oY scope sc=true) (hcap:mE N X.N scope sc cap=true) (hk:scope.kind=.function)
  (I:Inv X pins σ H s) (T:aIG X.prog X.w X.K tg J fp it tn) (st:tn 0 s.heap) (hfp:∀b∈fp,uL X pins H b)
  (hg:∀cl C,PG (cxB X N scope cl C fp s H) tg g) (ht:∀cl C pi s2 σ2 H2 Q,Inv (cxB X N scope cl C fp s H) pi σ2 H2 s2->tt σ2 H2 Q->AK (AG X.prog X.w) X.A (forIn ifs true λc r=>if r=true then do let ok <-isTrue c (compEnvC scope cl C X.env) (eval c<|compEnvC scope cl C X.env);pure (ForInStep.yield ok) else pure (ForInStep.yield r)) (TP (cxB X N scope cl C fp s H) pi σ2 Q) (λ_ _=>False) s2)
  (he:∀cl C,PE (cxB X N scope cl C fp s H) elt te) (W:Nat->Nat->List V->St->Hp->Prop) (m0:Nat) (w0:W 0 m0 [] (xK cap σ) H)
  (RR:BD->BF->Result->BE->Prop)
  (turn:∀i m ys σb H2,W i m ys σb H2→
   (J.stop i H2/\∀D C s',H2 D=none->H2 C=none->D≠C->X.s₀.heap.objs.size<=C->C≠X.env.locals->(∀x c,X.env.cells.lookup x=some c->c≠C)->(∀p∈X.pn++pins,p.1≠C)->C∉frs X.stack->(∃m,s'.heap.Ns C m)->Inv X pins σ (upd H2 D<|.lst ys) s'->RR (.ref D) C (.ok .next) s')\/
   (J.go i H2∧ys.length<AM∧∃Nx:List V→St→Hp→Prop,(∀ys' σ' H',Nx ys' σ' H'→∃m',m'<m∧W (i+1) m' ys' σ' H')∧
    ∀x H',J.yld i H2 x H'->g x σb H' λσ2 H3=>tt σ2 H3 λb H4=>if b=true then te σ2 H4 λv H5=>Nx (ys++[v]) σ2 H5 else Nx ys σ2 H4)):
  AK (AG X.prog X.w) X.A (newList []) (fun acc s₃=>AK (AG X.prog X.w) X.A (newFunctionEnv scope X.env.globals (clo X.env.cells scope.names []) [] X.env.qual none .none (some X.env)) (fun cenv s₄=>
   Az (AG X.prog X.w) X.A (.compStart (.ListComp elt [⟨tg,iter,ifs,0⟩] scope pos) 0 (.ref it) acc {cenv with scope:=relabel scope X.env}) (RR acc cenv.locals) s₄) E s₃) E s:=
 aEN (λ_ _ _ _=>False) (λ_ _ _ _ _=>False) hc hsc hcn hcap hk I T st hfp hg ht he W m0 w0 RR (λ_ _ _ _ z=>z.elim) (λ_ _ _ _ _ _ z=>z.elim) turn
end L2
namespace DL
open PySem PySem.Spec PyProof.Rows L2
noncomputable abbrev St:=L2.St
inductive D where
 |non|bl (b:Bool)|int (i:Int)|str (x:Str)|tup (ds:List D)|lst (ds:List D)|dic|scr (ns:List Int)|dki (ks:List Key) (ds:List D)|any (G:V->Hp->Prop)
mutual
noncomputable def Rep(K:aA)(H:Hp):D->V->Prop
 |.non,v=>v=.non
 |.bl b,v=>v=.bl b
 |.int i,v=>v=.int i
 |.str x,v=>v=.str x
 |.tup ds,v=>∃a xs,v=.ref a/\H a=some (.tup xs)/\RepL K H ds xs
 |.lst ds,v=>∃a xs,v=.ref a/\H a=some (.lst xs)/\RepL K H ds xs
 |.dic,v=>∃a,v=.ref a/\H a=some (.dK [])
 |.dki ks ds,v=>∃a xs,v=.ref a/\(∃ob,H a=some (.frz ob (.dK<|ks.zip xs)))/\ks.length=ds.length/\RepL K H ds xs
 |.scr ns,v=>∃a,v=.ref a/\SqL K H a (ns.map V.int)
 |.any G,v=>(∃a,v=.ref a)/\∀H',Same H H'->G v H'
noncomputable def RepL(K:aA)(H:Hp):List D->List V->Prop
 |[],xs=>xs=[]
 |d::ds,xs=>∃y ys,xs=y::ys/\Rep K H d y/\RepL K H ds ys
end
mutual
theorem Rep.mono{K:aA}{H H':Hp}(h:Same H H'):∀ {d:D}{v:V},Rep K H d v->Rep K H' d v
 |.non,_,r=>by simpa only[Rep] using r
 |.bl _,_,r=>by simpa only[Rep] using r
 |.int _,_,r=>by simpa only[Rep] using r
 |.str _,_,r=>by simpa only[Rep] using r
 |.tup ds,v,r=>by simp only[Rep] at r ⊢;obtain⟨a,xs,e,q,rl⟩:=r;exact⟨a,xs,e,h _ _ q,RepL.mono h rl⟩
 |.lst ds,v,r=>by simp only[Rep] at r ⊢;obtain⟨a,xs,e,q,rl⟩:=r;exact⟨a,xs,e,h _ _ q,RepL.mono h rl⟩
 |.dki ks ds,v,r=>by simp only[Rep] at r ⊢;obtain⟨a,xs,e,⟨ob,q⟩,l,rl⟩:=r;exact⟨a,xs,e,⟨ob,h _ _ q⟩,l,RepL.mono h rl⟩
 |.dic,v,r=>by simp only[Rep] at r ⊢;obtain⟨a,e,q⟩:=r;exact⟨a,e,h _ _ q⟩
 |.any G,v,r=>by simp only[Rep] at r ⊢;exact⟨r.1,λH2 s=>r.2 H2<|h.trans s⟩
 |.scr ns,v,r=>by simp only[Rep] at r ⊢;obtain⟨a,e,q⟩:=r;exact⟨a,e,h.seq q⟩
theorem RepL.mono{K:aA}{H H':Hp}(h:Same H H'):∀ {ds:List D}{xs:List V},RepL K H ds xs->RepL K H' ds xs
 |[],_,r=>by simpa only[RepL] using r
 |d::ds,xs,r=>by simp only[RepL] at r ⊢;obtain⟨y,ys,e,q,rl⟩:=r;exact⟨y,ys,e,Rep.mono h q,RepL.mono h rl⟩
end
theorem RepL.len{K:aA}{H:Hp}:∀ {ds:List D}{xs:List V},RepL K H ds xs->xs.length=ds.length
 |[],_,r=>by simp only[RepL] at r;rw[r];rfl
 |d::ds,xs,r=>by simp only[RepL] at r;obtain⟨y,ys,rfl,_,q⟩:=r;simp only[bD,RepL.len q]
theorem RepL.get{K:aA}{H:Hp}:∀ {ds:List D}{xs:List V}{i:Nat}{d:D},RepL K H ds xs->ds[i]? =some d->∃v,xs[i]? =some v/\Rep K H d v
 |[],_,i,d,r,e=>by simp at e
 |d'::ds,xs,i,d,r,e=>by
  simp only[RepL] at r;obtain⟨y,ys,rfl,q,rl⟩:=r;cases i with
  |zero=>simp at e;subst e;exact⟨y,rfl,q⟩
  |succ i=>
   have e':ds[i]? =some d:=by simpa using e
   obtain⟨v,h1,h2⟩:=RepL.get rl e';exact⟨v,by simpa using h1,h2⟩
theorem RepL.app{K:aA}{H:Hp}:∀ {ds es:List D}{xs ys:List V},RepL K H ds xs->RepL K H es ys->RepL K H (ds++es) (xs++ys)
 |[],es,xs,ys,r,q=>by simp only[RepL] at r;subst r;exact q
 |d::ds,es,xs,ys,r,q=>by simp only[RepL] at r;obtain⟨y,zs,rfl,a,rl⟩:=r;show RepL K H (d::(ds++es)) (y::(zs++ys));simp only[RepL];exact⟨y,_,rfl,a,RepL.app rl q⟩
theorem RepL.nil{K:aA}{H:Hp}:RepL K H [] []:=by simp only[RepL]
theorem RepL.cons{K:aA}{H:Hp}{d:D}{ds:List D}{x:V}{xs:List V}(a:Rep K H d x)(b:RepL K H ds xs):RepL K H (d::ds) (x::xs):=by simp only[RepL];exact⟨x,xs,rfl,a,b⟩
theorem RepL.one{K:aA}{H:Hp}{d:D}{x:V}(a:Rep K H d x):RepL K H [d] [x]:=.cons a .nil
theorem RepL.uncons{K:aA}{H:Hp}{d:D}{ds:List D}{xs:List V}(r:RepL K H (d::ds) xs):∃y ys,xs=y::ys/\Rep K H d y/\RepL K H ds ys:=by simpa only[RepL] using r
theorem RepL.take{K:aA}{H:Hp}:∀ {ds:List D}{xs:List V} (n:Nat),RepL K H ds xs->RepL K H (ds.take n) (xs.take n)
 |_,_,0,_=>by simp only[aNC];exact .nil
 |[],xs,n+1,r=>by simp only[RepL] at r;subst r;exact .nil
 |d::ds,xs,n+1,r=>by obtain⟨y,ys,rfl,a,rl⟩:=r.uncons;simp only[aFA];exact .cons a<|RepL.take n rl
theorem RepL.drop{K:aA}{H:Hp}:∀ {ds:List D}{xs:List V} (n:Nat),RepL K H ds xs->RepL K H (ds.drop n) (xs.drop n)
 |_,_,0,r=>by simpa only[List.drop_zero] using r
 |[],xs,n+1,r=>by simp only[RepL] at r;subst r;exact .nil
 |d::ds,xs,n+1,r=>by obtain⟨y,ys,rfl,a,rl⟩:=r.uncons;simp only[List.drop_succ_cons];exact RepL.drop n rl
theorem RepL.ints{K:aA}{H:Hp}:∀ {ns:List Int}{xs:List V},RepL K H (ns.map D.int) xs->xs=ns.map V.int
 |[],xs,r=>by simpa only[eF,RepL] using r
 |n::ns,xs,r=>by rw[aW] at r;obtain⟨y,ys,rfl,a,rl⟩:=r.uncons;simp only[Rep] at a;rw[a,RepL.ints rl];rfl
inductive Slot where
 |un|val (d:D)|own (l:BF) (ds:List D)|gh (d:D) (G:V->Hp->Prop)|od (l:BF) (ks:List Key) (ds:List D)|ox (ls:List BF) (G:V->Hp->Hp->Prop)
noncomputable def Wr(l:BF):HO->Prop
 |.lst _=>True
 |.dK _=>True
 |.ext φ=>∃o:BI,φ=(λh=>h.get? l=some o)/\∀v,o.data≠ .cell v
 |_=>False
noncomputable def dM(K:aA)(F H:Hp):Slot->Option V->Prop
 |.un,_=>True
 |.val d,o=>∃v,o=some v/\Rep K F d v
 |.own l ds,o=>o=some (.ref l)/\F l=none/\∃xs,H l=some (.lst xs)/\RepL K F ds xs
 |.od l ks ds,o=>o=some (.ref l)/\F l=none/\∃xs,H l=some (.dK<|ks.zip xs)/\ks.length=ds.length/\RepL K F ds xs
 |.gh d G,o=>∃v,o=some v/\Rep K F d v/\∀F',Same F F'->G v F'
 |.ox ls G,o=>∃v,o=some v/\(∀l∈ls,F l=none/\∃ob,H l=some ob/\Wr l ob)/\∀F' H',Same F F'->(∀l∈ls,∀ob,H l=some ob->H' l=some ob)->G v F' H'
noncomputable def SlotsOk(K:aA)(F H:Hp):List Slot->St->Prop
 |[],σ=>σ=[]
 |z::zs,σ=>∃o r,σ=o::r/\dM K F H z o/\SlotsOk K F H zs r
noncomputable def fC:Slot->List BF
 |.own l _=>[l]
 |.od l _ _=>[l]
 |.ox ls _=>ls
 |_=>[]
noncomputable def bU(sd:List Slot):List BF:=sd.flatMap fC
theorem lB(z:Slot)(zs:List Slot):bU (z::zs)=fC z++bU zs:=rfl
structure StF(K:aA)(H₀ F H:Hp)(σ:St)(sd:List Slot):Prop where
 base:Same H₀ F
 sub:Same F H
 smp:Smp H
 slots:SlotsOk K F H sd σ
 nd:(bU sd).Nodup
variable {K:aA}{H₀ F F' H H':Hp}{σ:St}{sd:List Slot}
theorem SlotsOk.get:∀ {sd:List Slot}{σ:St}{i:Nat}{z:Slot},SlotsOk K F H sd σ->sd[i]? =some z->∃o,σ[i]? =some o/\dM K F H z o
 |[],_,_,_,_,e=>by simp at e
 |z'::zs,σ,i,z,h,e=>by
  obtain⟨o,r,rfl,a,b⟩:=h;cases i with
  |zero=>simp at e;subst e;exact⟨o,rfl,a⟩
  |succ i=>obtain⟨o',h1,h2⟩:=SlotsOk.get (i:=i) b (by simpa using e);exact⟨o',by simpa using h1,h2⟩
theorem SlotsOk.set{z:Slot}{o:Option V}(q:dM K F H z o):∀ {sd:List Slot}{σ:St} (i:Nat),SlotsOk K F H sd σ->SlotsOk K F H (sd.set i z) (σ.set i o)
 |[],_,_,h=>by have h:_=_:=h;subst h;rfl
 |z'::zs,σ,i,h=>by
  obtain⟨o',r,rfl,a,b⟩:=h;cases i with
  |zero=>exact⟨o,r,rfl,q,b⟩
  |succ i=>exact⟨o',_,rfl,a,SlotsOk.set q i b⟩
theorem SlotsOk.mono(hF:Same F F'):∀ {sd:List Slot}{σ:St},(∀l∈bU sd,F' l=none/\∀xs,H l=some xs->H' l=some xs)->SlotsOk K F H sd σ->SlotsOk K F' H' sd σ
 |[],_,_,h=>h
 |z::zs,σ,ho,h=>by
  obtain⟨o,r,rfl,a,b⟩:=h;refine⟨o,r,rfl, ?_,SlotsOk.mono hF (λl hl=>ho l ?_) b⟩
  ·cases z with
   |un=>trivial
   |val d=>obtain⟨v,e,q⟩:=a;exact⟨v,e,q.mono hF⟩
   |gh d G=>obtain⟨v,e,q,g⟩:=a;exact⟨v,e,q.mono hF,λF2 s2=>g F2<|hF.trans s2⟩
   |own l ds=>obtain⟨e,n,xs,q,rl⟩:=a;have:=ho l (by simp[lB,fC]);exact⟨e,this.1,xs,this.2 _ q,rl.mono hF⟩
   |od l ks ds=>obtain⟨e,n,xs,q,ln,rl⟩:=a;have:=ho l (by simp[lB,fC]);exact⟨e,this.1,xs,this.2 _ q,ln,rl.mono hF⟩
   |ox ls G=>
    obtain⟨v,e,h,g⟩:=a;have ho':∀l∈ls,F' l=none/\∀xs,H l=some xs->H' l=some xs:=λl hl=>ho l<|bL _ hl
    exact⟨v,e,λl hl=>⟨(ho' l hl).1,let ⟨ob,q,w⟩:=(h l hl).2;⟨ob,(ho' l hl).2 _ q,w⟩⟩,λF2 H2 s2 k=>g F2 H2 (hF.trans s2) λl hl ob q=>k l hl ob<|(ho' l hl).2 _ q⟩
  ·exact aI _ hl
theorem SlotsOk.owns:∀ {sd:List Slot}{σ:St}{l:BF},SlotsOk K F H sd σ->l∈bU sd->F l=none/\∃ob,H l=some ob/\Wr l ob
 |[],_,_,_,e=>by simp[bU] at e
 |z::zs,σ,l,h,e=>by
  obtain⟨o,r,rfl,a,b⟩:=h
  rcases aU.mp (show l∈fC z++bU zs from e) with e|e
  ·cases z with
   |un=>cases e
   |val d=>cases e
   |gh d G=>cases e
   |own l' ds=>rw[aH.mp e];obtain⟨_,n,xs,q,_⟩:=a;exact⟨n,_,q,trivial⟩
   |od l' ks ds=>rw[aH.mp e];obtain⟨_,n,xs,q,_⟩:=a;exact⟨n,_,q,trivial⟩
   |ox ls G=>obtain⟨v,_,h,_⟩:=a;exact h l e
  ·exact SlotsOk.owns b e
theorem StF.lay{p:BF}{o:HO}(S:StF K H₀ F H σ sd)(hp:H p=none)(ho:aNI o):StF K H₀ (upd F p o) (upd H p o) σ sd/\Same F (upd F p o):=by
 have fp:F p=none:=S.sub.free hp;have s1:Same F (upd F p o):=λb u e=>by rw[aR<|cC e fp];exact e
 refine⟨⟨λb u e=>s1 _ _<|S.base _ _ e,λb u e=> ?_,λb u e=> ?_,S.slots.mono s1 λl hl=> ?_,S.nd⟩,s1⟩
 ·by_cases h:b=p
  ·subst h;rw[bJ] at e ⊢;exact e
  ·rw[aR h] at e ⊢;exact S.sub _ _ e
 ·by_cases h:b=p
  ·subst h;rw[bJ] at e;cases e;exact ho
  ·rw[aR h] at e;exact S.smp _ _ e
 ·obtain⟨n,xs,q,_⟩:=S.slots.owns hl;have hne:l≠p:=cC q hp;exact⟨by rw[aR hne];exact n,λys e=>by rw[aR hne];exact e⟩
theorem StF.layO{p:BF}{xs:List V}(S:StF K H₀ F H σ sd)(hp:H p=none):StF K H₀ F (upd H p<|.lst xs) σ sd/\F p=none/\p∉bU sd:=by
 have fp:F p=none:=S.sub.free hp;refine⟨⟨S.base,λb u e=> ?_,λb u e=> ?_,S.slots.mono (Same.refl _) λl hl=> ?_,S.nd⟩,fp,λhl=> ?_⟩
 ·rw[aR<|cC e fp];exact S.sub _ _ e
 ·by_cases h:b=p
  ·subst h;rw[bJ] at e;cases e;trivial
  ·rw[aR h] at e;exact S.smp _ _ e
 ·obtain⟨n,ys,q,_⟩:=S.slots.owns hl;have hne:l≠p:=cC q hp;exact⟨n,λys e=>by rw[aR hne];exact e⟩
 ·obtain⟨n,ys,q,_⟩:=S.slots.owns hl;rw[hp] at q;cases q
theorem StF.freeze{p:BF}{xs:List V}(S:StF K H₀ F H σ sd)(hp:H p=some (.lst xs))(fp:F p=none)(ho:p∉bU sd):StF K H₀ (upd F p<|.lst xs) H σ sd/\Same F (upd F p<|.lst xs):=by
 have s1:Same F (upd F p<|.lst xs):=λb u e=>by rw[aR<|cC e fp];exact e
 refine⟨⟨λb u e=>s1 _ _<|S.base _ _ e,λb u e=> ?_,S.smp,S.slots.mono s1 λl hl=> ?_,S.nd⟩,s1⟩
 ·by_cases h:b=p
  ·subst h;rw[bJ] at e;rw[hp];exact e
  ·rw[aR h] at e;exact S.sub _ _ e
 ·obtain⟨n,ys,q,_⟩:=S.slots.owns hl;have hne:l≠p:=λz=>ho (z▸hl)
  exact⟨by rw[aR hne];exact n,λys e=>e⟩
theorem SlotsOk.len:∀ {sd:List Slot}{σ:St},SlotsOk K F H sd σ->σ.length=sd.length
 |[],_,h=>by have h:_=_:=h;rw[h];rfl
 |z::zs,σ,h=>by obtain⟨o,r,rfl,_,b⟩:=h;simp[SlotsOk.len b]
inductive R where
 |val (d:D)|own (ds:List D)|bor (ds:List D)|pr (d:D) (ls:List D)|ox (G:V->List BF->Hp->Hp->Prop)
def LOk(K:aA)(F H:Hp)(sd:List Slot)(v:V)(ds:List D):Prop:=
 ∃l xs,v=.ref l/\H l=some (.lst xs)/\RepL K F ds xs/\(F l=some (.lst xs)\/Slot.own l ds∈sd)
noncomputable def ResOk(K:aA)(F H:Hp)(sd:List Slot):R->V->Prop
 |.val d,v=>Rep K F d v
 |.own ds,v=>∃l xs,v=.ref l/\F l=none/\H l=some (.lst xs)/\RepL K F ds xs/\l∉bU sd
 |.bor ds,v=>LOk K F H sd v ds
 |.pr d ls,v=>∃t l xs y,v=.ref t/\F t=some (.tup [y,.ref l])/\Rep K F d y/\F l=none/\H l=some (.lst xs)/\RepL K F ls xs/\l∉bU sd
 |.ox G,v=>∃ls:List BF,ls.Nodup/\(∀l∈ls,F l=none/\(∃ob,H l=some ob/\Wr l ob)/\l∉bU sd)/\∀F' H',Same F F'->(∀l∈ls,∀ob,H l=some ob->H' l=some ob)->G v ls F' H'
noncomputable def R.keeps:R->Prop
 |.own _=>False
 |.pr _ _=>False
 |.ox _=>False
 |_=>True
variable {r:R}{v:V}
theorem ResOk.keep(hr:r.keeps)(h:ResOk K F H sd r v)(S':StF K H₀ F' H' σ sd)(s:Same F F'):ResOk K F' H' sd r v:=by
 cases r with
 |val d=>exact Rep.mono s h
 |own ds=>exact hr.elim
 |pr d ls=>exact hr.elim
 |ox G=>exact hr.elim
 |bor ds=>
  obtain⟨l,xs,e,hl,rl,q⟩:=h
  rcases q with q|q
  ·exact⟨l,xs,e,S'.sub _ _<|s _ _ q,rl.mono s,.inl<|s _ _ q⟩
  ·obtain⟨i,hi⟩:=dO q;obtain⟨o,_,e2,_,ys,h1,h2⟩:=S'.slots.get hi;exact⟨l,ys,e,h1,h2,.inr q⟩
structure PEd(X:Cx)(sd:List Slot)(e:Expr)(r:R):Prop where
 run:∀ (σ:St) (F H:Hp),StF X.K X.B₀ F H σ sd->
 wE X e σ H λv H'=>∃F',StF X.K X.B₀ F' H' σ sd/\Same F F'/\ResOk X.K F' H' sd r v
instance {X:Cx}{sd:List Slot}{e:Expr}{r:R}:CoeFun (PEd X sd e r) (fun _=>∀ (σ:St) (F H:Hp),StF X.K X.B₀ F H σ sd→
 wE X e σ H λv H'=>∃F',StF X.K X.B₀ F' H' σ sd/\Same F F'/\ResOk X.K F' H' sd r v):=⟨PEd.run⟩
structure PTd(X:Cx)(sd:List Slot)(e:Expr)(b:Bool):Prop where
 run:∀ (σ:St) (F H:Hp),StF X.K X.B₀ F H σ sd->
 wT X e σ H λc H'=>c=b/\∃F',StF X.K X.B₀ F' H' σ sd/\Same F F'
instance {X:Cx}{sd:List Slot}{e:Expr}{b:Bool}:CoeFun (PTd X sd e b) (fun _=>∀ (σ:St) (F H:Hp),StF X.K X.B₀ F H σ sd→
 wT X e σ H λc H'=>c=b/\∃F',StF X.K X.B₀ F' H' σ sd/\Same F F'):=⟨PTd.run⟩
structure PWd(X:Cx)(sd:List Slot)(e:Expr)(b:Bool):Prop where
 run:∀ (σ:St) (F H:Hp),StF X.K X.B₀ F H σ sd->
 wW X e σ H λc H'=>c=b/\∃F',StF X.K X.B₀ F' H' σ sd/\Same F F'
instance {X:Cx}{sd:List Slot}{e:Expr}{b:Bool}:CoeFun (PWd X sd e b) (fun _=>∀ (σ:St) (F H:Hp),StF X.K X.B₀ F H σ sd→
 wW X e σ H λc H'=>c=b/\∃F',StF X.K X.B₀ F' H' σ sd/\Same F F'):=⟨PWd.run⟩
inductive RsOk(K:aA)(F H:Hp)(sd:List Slot):List R->List V->Prop
 |nil:RsOk K F H sd [] []
 |cons {r v rs vs}:ResOk K F H sd r v->RsOk K F H sd rs vs->RsOk K F H sd (r::rs) (v::vs)
structure PAd(X:Cx)(sd:List Slot)(es:List Expr)(rs:List R):Prop where
 run:∀ (σ:St) (F H:Hp),StF X.K X.B₀ F H σ sd->
 wA X es σ H λvs H'=>∃F',StF X.K X.B₀ F' H' σ sd/\Same F F'/\RsOk X.K F' H' sd rs vs
instance {X:Cx}{sd:List Slot}{es:List Expr}{rs:List R}:CoeFun (PAd X sd es rs) (fun _=>∀ (σ:St) (F H:Hp),StF X.K X.B₀ F H σ sd→
 wA X es σ H λvs H'=>∃F',StF X.K X.B₀ F' H' σ sd/\Same F F'/\RsOk X.K F' H' sd rs vs):=⟨PAd.run⟩
structure hW where
 nx:List Slot->Prop
 rt:R->Prop
 bk:List Slot->Prop:=λ_=>False
 ct:List Slot->Prop:=λ_=>False
def aFI(K:aA)(H₀ H:Hp)(r:R)(v:V):Prop:=∃F,Same H₀ F/\Same F H/\Smp H/\ResOk K F H [] r v
noncomputable def lft(X:Cx)(F₀:Hp)(E:hW):sN where
 nx:=λσ H=>∃sd F,StF X.K X.B₀ F H σ sd/\Same F₀ F/\E.nx sd
 rt:=λv H=>∃r,aFI X.K X.B₀ H r v/\E.rt r
 bk:=λσ H=>∃sd F,StF X.K X.B₀ F H σ sd/\Same F₀ F/\E.bk sd
 ct:=λσ H=>∃sd F,StF X.K X.B₀ F H σ sd/\Same F₀ F/\E.ct sd
structure PSd(X:Cx)(sd:List Slot)(sts:List BJ)(E:hW):Prop where
 run:∀ (σ:St) (F H:Hp),StF X.K X.B₀ F H σ sd->wSs X sts (lft X F E) σ H
instance {X:Cx}{sd:List Slot}{sts:List BJ}{E:hW}:CoeFun (PSd X sd sts E) (λ_=>∀ (σ:St) (F H:Hp),StF X.K X.B₀ F H σ sd->wSs X sts (lft X F E) σ H):=⟨PSd.run⟩
structure PSd1(X:Cx)(sd:List Slot)(st:BJ)(E:hW):Prop where
 run:∀ (σ:St) (F H:Hp),StF X.K X.B₀ F H σ sd->wS X st (lft X F E) σ H
instance {X:Cx}{sd:List Slot}{st:BJ}{E:hW}:CoeFun (PSd1 X sd st E) (λ_=>∀ (σ:St) (F H:Hp),StF X.K X.B₀ F H σ sd->wS X st (lft X F E) σ H):=⟨PSd1.run⟩
variable {X:Cx}{e a b c:Expr}{es:List Expr}{pos:Pos}{ra rb:R}{d:D}{ds:List D}
theorem PEd.val(h:PEd X sd e (.own ds)):PEd X sd e (.val<|.lst ds):=.mk λσ F H S=>(h σ F H S).imp λv H' ⟨F',S',s,l,xs,e,n,q,rl,no⟩=>by obtain⟨S2,s2⟩:=S'.freeze q n no;refine⟨_,S2,s.trans s2, ?_⟩;show Rep _ _ _ _;simp only[Rep];exact⟨l,xs,e,bJ,rl.mono s2⟩
theorem PEd.bor(h:PEd X sd e (.val<|.lst ds)):PEd X sd e (.bor ds):=.mk λσ F H S=>(h σ F H S).imp λv H' ⟨F',S',s,q⟩=>by have q:Rep _ _ _ _:=q;simp only[Rep] at q;obtain⟨l,xs,e,q,rl⟩:=q;exact⟨F',S',s,l,xs,e,S'.sub _ _ q,rl,.inl q⟩
theorem aDi(i:Nat){x:Str}(hs:sd[i]? =some (.val d))(h:PE X (.Name x pos) (iI i)):PEd X sd (.Name x pos) (.val d):= .mk fun σ F H S=>h.to (by
 obtain⟨o,h1,v,h2,q⟩:=S.slots.get hs
 exact⟨v,by rw[h1,h2],F,S,Same.refl _,q⟩)
theorem aKE(i:Nat){x:Str}{l:BF}(hs:sd[i]? =some (.own l ds))(h:PE X (.Name x pos) (iI i)):PEd X sd (.Name x pos) (.bor ds):= .mk fun σ F H S=>h.to (by
 obtain⟨o,h1,h2,n,xs,q,rl⟩:=S.slots.get hs
 exact⟨.ref l,by rw[h1,h2],F,S,Same.refl _,l,xs,rfl,q,rl,.inr (aY hs)⟩)
theorem cE{i j}:PEd X sd (.Constant (.int i) j pos) (.val<|.int i):=.mk λσ F H S=>pe_int.to ⟨F,S,Same.refl _,by simp only[ResOk,Rep]⟩
theorem aOH{i j}:PEd X sd (.Constant (.bool i) j pos) (.val<|.bl i):=.mk λσ F H S=>pe_bl.to ⟨F,S,Same.refl _,by simp only[ResOk,Rep]⟩
theorem kU{j}:PEd X sd (.Constant .none j pos) (.val .non):=.mk λσ F H S=>pe_non.to ⟨F,S,Same.refl _,by simp only[ResOk,Rep]⟩
theorem fU{i j}:PEd X sd (.Constant (.str i) j pos) (.val<|.str i):=.mk λσ F H S=>pe_str.to ⟨F,S,Same.refl _,by simp only[ResOk,Rep]⟩
theorem aGu{x:Str}{i:Int}{u:BD}(hg:Gl X x)(hm:X.mg x=some u)(ru:RelV (.int i) u)(hd:(x==("__debug__":Str))=false:=by decide):PEd X sd (.Name x pos) (.val<|.int i):=.mk λσ F H S=>(aAo hg hm ru hd).to ⟨F,S,Same.refl _,by simp only[ResOk,Rep]⟩
theorem aM:PAd X sd [] []:=.mk λσ F H S=>pa_nil.to ⟨F,S,Same.refl _,.nil⟩
theorem aB{rs:List R}(h1:PEd X sd e r)(h2:PAd X sd es rs)(hk:r.keeps:=by trivial)(hs:AB (e::es) X.env=(false,eval e X.env)::AB es X.env:=by rfl):PAd X sd (e::es) (r::rs):=.mk λσ F H S=>(cY eR qT hs).to<|(h1 σ F H S).imp λv H1 ⟨F1,S1,s1,q1⟩=>(h2 σ F1 H1 S1).imp λvs H2 ⟨F2,S2,s2,q2⟩=>⟨F2,S2,s1.trans s2,.cons (q1.keep hk S2 s2) q2⟩
theorem RsOk.vals{K:aA}{F H:Hp}:∀ {ds:List D}{vs:List V},RsOk K F H sd (ds.map R.val) vs->RepL K F ds vs
 |[],_,.nil=>.nil
 |_::_,_,.cons q t=>.cons q<|RsOk.vals t
theorem aHG{x1}(h:PAd X sd es (ds.map R.val))(hl:ds.length<=10000):PEd X sd (.Tuple es x1 pos) (.val<|.tup ds):=.mk λσ F H S=>
 (aHA qT).to ((h σ F H S).imp fun vs H1 ⟨F1,S1,s1,q1⟩=>by
  have rl:=q1.vals;refine⟨by rw[rl.len];exact dA<|eV hl,λp hp=> ?_⟩;obtain⟨S2,s2⟩:=S1.lay (o:=.tup vs) hp trivial;refine⟨_,S2,s1.trans s2, ?_⟩;simp only[ResOk,Rep]
  exact⟨p,vs,rfl,bJ,rl.mono s2⟩)
theorem aAL(h:PAd X sd es (ds.map R.val))(hl:ds.length<=10000):PEd X sd (.List es pos) (.own ds):=.mk λσ F H S=>
 (aMl qT).to ((h σ F H S).imp fun vs H1 ⟨F1,S1,s1,q1⟩=>by
  have rl:=q1.vals;refine⟨by rw[rl.len];exact dA<|eV hl,λp hp=> ?_⟩;obtain⟨S2,fp,no⟩:=S1.layO (xs:=vs) hp
  exact⟨_,S2,s1,p,vs,rfl,fp,bJ,rl,no⟩)
theorem aCY{op:Operator}{r2:R2}(ho:OpR X (Ao op) r2)(ha:PEd X sd a ra)(hb:PEd X sd b rb)(hk:ra.keeps)
  (h:∀ (σ:St) (F H:Hp) (v u:V) (Q:VK),StF X.K X.B₀ F H σ sd->ResOk X.K F H sd ra v->ResOk X.K F H sd rb u->(∀w F' H',StF X.K X.B₀ F' H' σ sd->Same F F'->ResOk X.K F' H' sd r w->Q w H')->r2 v u H Q):
  PEd X sd (.BinOp a op b pos) r:=.mk λσ F H S=>
 (aOG ho eR eR).to ((ha σ F H S).imp λv H1 ⟨F1,S1,s1,q1⟩=>(hb σ F1 H1 S1).imp λu H2 ⟨F2,S2,s2,q2⟩=>h σ F2 H2 v u _ S2 (q1.keep hk S2 s2) q2 λw F' H' S' s' q'=>⟨F',S',(s1.trans s2).trans s',q'⟩)
theorem tJ{op:CmpOp}{r2:R2}(ho:OpR X (AW op) r2)(ha:PEd X sd a ra)(hb:PEd X sd b rb)(hk:ra.keeps)(hm:AU op b=false){k:Bool}
  (h:∀ (σ:St) (F H:Hp) (v u:V) (Q:VK),StF X.K X.B₀ F H σ sd->ResOk X.K F H sd ra v->ResOk X.K F H sd rb u->(∀F' H',StF X.K X.B₀ F' H' σ sd->Same F F'->Q (.bl k) H')->r2 v u H Q):
  PEd X sd (.Compare a [op] [b] pos) (.val<|.bl k):=.mk λσ F H S=>
 (aJv ho eR eR hm).to ((ha σ F H S).imp λv H1 ⟨F1,S1,s1,q1⟩=>(hb σ F1 H1 S1).imp λu H2 ⟨F2,S2,s2,q2⟩=>h σ F2 H2 v u _ S2 (q1.keep hk S2 s2) q2 λF' H' S' s'=>⟨F',S',(s1.trans s2).trans s',by simp only[ResOk,Rep]⟩)
theorem fZ{k:Bool}(h:PEd X sd e (.val<|.bl k))(he:∀whole,isTrue e X.env whole=(do let v <-whole;standAt e.pos;holding [v] (truthy v)):=by intro _;rfl):PTd X sd e k:=.mk λσ F H S=>
 (aMj eR he).to ((h σ F H S).imp fun v H1 ⟨F1,S1,s1,q1⟩=>by
  simp only[ResOk,Rep] at q1
  exact⟨k,q1,rfl,F1,S1,s1⟩)
theorem kZ{op:CmpOp}{r2:R2}(ho:OpR X (AW op) r2)(ha:PEd X sd a ra)(hb:PEd X sd b rb)(hk:ra.keeps)(hm:AU op b=false){k:Bool}
  (h:∀ (σ:St) (F H:Hp) (v u:V) (Q:VK),StF X.K X.B₀ F H σ sd->ResOk X.K F H sd ra v->ResOk X.K F H sd rb u->(∀F' H',StF X.K X.B₀ F' H' σ sd->Same F F'->Q (.bl k) H')->r2 v u H Q):
  PTd X sd (.Compare a [op] [b] pos) k:=.mk λσ F H S=>
 (aAg ho eR eR hm).to ((ha σ F H S).imp λv H1 ⟨F1,S1,s1,q1⟩=>(hb σ F1 H1 S1).imp λu H2 ⟨F2,S2,s2,q2⟩=>h σ F2 H2 v u _ S2 (q1.keep hk S2 s2) q2 λF' H' S' s'=>⟨k,rfl,rfl,F',S',(s1.trans s2).trans s'⟩)
variable {st:BJ}{rest:List BJ}{E:hW}
theorem wS.imp{D D':sN}(h:wS X st D σ H)(k1:∀σ H,D.nx σ H->D'.nx σ H)(k2:∀v H,D.rt v H->D'.rt v H)(k3:∀σ H,D.bk σ H->D'.bk σ H)(k4:∀σ H,D.ct σ H->D'.ct σ H):wS X st D' σ H:=
 λpins s I=>thn (h pins s I) λf s' q=>q.imp k1 k2 k3 k4
theorem oO{k:Bool}(h:PTd X sd e k):PTd X sd (.UnaryOp .Not e pos) (!k):=.mk λσ F H S=>(aMN aHv).to<|(h σ F H S).imp λc H' ⟨e,q⟩=>⟨by rw[e],q⟩
theorem uW{k:Bool}(h:PTd X sd a k):PWd X sd (.BoolOp .And [a] pos) k:=.mk λσ F H S=>(aJq aHv).to<|h σ F H S
theorem aDR{k:Bool}(h:PTd X sd a k):PWd X sd (.BoolOp .Or [a] pos) k:=.mk λσ F H S=>(aNq aHv).to<|h σ F H S
theorem qQ{k j:Bool}(h:PTd X sd a k)(h2:k=true->PWd X sd (.BoolOp .And (b::es) pos) j):PWd X sd (.BoolOp .And (a::b::es) pos) (k&&j):=.mk λσ F H S=>
 (aMG aHv aOf).to ((h σ F H S).imp fun c H' ⟨e,F',S',s'⟩=>by
  subst e;cases c with
  |false=>exact aIH ⟨rfl,F',S',s'⟩
  |true=>exact aIC ((h2 rfl σ F' H' S').imp λc2 H2 ⟨e2,F2,S2,s2⟩=>⟨by rw[e2];rfl,F2,S2,s'.trans s2⟩))
theorem rH{k j:Bool}(h:PTd X sd a k)(h2:k=false->PWd X sd (.BoolOp .Or (b::es) pos) j):PWd X sd (.BoolOp .Or (a::b::es) pos) (k||j):=.mk λσ F H S=>
 (aOt aHv aOf).to ((h σ F H S).imp fun c H' ⟨e,F',S',s'⟩=>by
  subst e;cases c with
  |true=>exact aIC ⟨rfl,F',S',s'⟩
  |false=>exact aIH ((h2 rfl σ F' H' S').imp λc2 H2 ⟨e2,F2,S2,s2⟩=>⟨by rw[e2];rfl,F2,S2,s'.trans s2⟩))
theorem PWd.pt{k:Bool}(h:PWd X sd e k):PTd X sd e k:=.mk λσ F H S=>(aOf).pt.to<|h σ F H S
theorem aIo{op}{r:R}(h:PEd X sd a r):PEd X sd (.BoolOp op [a] pos) r:=.mk λσ F H S=>(aMM eR).to<|h σ F H S
theorem aDb{k j:Bool}(h:PEd X sd a (.val<|.bl k))(h2:k=true->PEd X sd (.BoolOp .And (b::es) pos) (.val<|.bl j)):PEd X sd (.BoolOp .And (a::b::es) pos) (.val (.bl<|k&&j)):=.mk λσ F H S=>
 (aMQ eR eR).to ((h σ F H S).imp fun v H' ⟨F',S',s',q⟩=>by
  simp only[ResOk,Rep] at q;subst q;refine⟨k,rfl, ?_⟩;cases k with
  |false=>exact aIH ⟨F',S',s',by simp only[ResOk,Rep,zA]⟩
  |true=>exact aIC ((h2 rfl σ F' H' S').imp λv2 H2 ⟨F2,S2,s2,q2⟩=>⟨F2,S2,s'.trans s2,by simpa only[Bool.true_and] using q2⟩))
theorem aDg{k:Bool}(h:PTd X sd c k)(h1:k=true->PEd X sd a r)(h2:k=false->PEd X sd b r):PEd X sd (.IfExp c a b pos) r:=.mk λσ F H S=>
 (aHa aHv eR eR).to ((h σ F H S).imp fun k' H' ⟨e,F',S',s'⟩=>by
  subst e;cases k' with
  |true=>exact aIC<|(h1 rfl σ F' H' S').imp λv2 H2 ⟨F2,S2,s2,q2⟩=>⟨F2,S2,s'.trans s2,q2⟩
  |false=>exact aIH ((h2 rfl σ F' H' S').imp λv2 H2 ⟨F2,S2,s2,q2⟩=>⟨F2,S2,s'.trans s2,q2⟩))
theorem fY{op:Operator}{g:Int->Int->Int}{i j:Int}(ho:OpR X (Ao op) (rI0 λi j=>.int<|g i j))(ha:PEd X sd a (.val<|.int i))(hb:PEd X sd b (.val<|.int j)):PEd X sd (.BinOp a op b pos) (.val (.int<|g i j)):=
 aCY ho ha hb trivial λσ F H v u Q S q1 q2 k=>by simp only[ResOk,Rep] at q1 q2;exact⟨i,j,q1,q2,k _ F H S (Same.refl _)<|by simp only[ResOk,Rep]⟩
theorem dR{op:Operator}{g:Int->Int->Int}{C:Int->Int->Prop}{i j:Int}(ho:OpR X (Ao op) (rI C λi j=>.int<|g i j))(ha:PEd X sd a (.val<|.int i))(hb:PEd X sd b (.val<|.int j))(hc:C i j):PEd X sd (.BinOp a op b pos) (.val (.int<|g i j)):=
 aCY ho ha hb trivial λσ F H v u Q S q1 q2 k=>by simp only[ResOk,Rep] at q1 q2;exact⟨i,j,q1,q2,hc,k _ F H S (Same.refl _)<|by simp only[ResOk,Rep]⟩
theorem lN:OpR X (Ao .Mult) (rI IntMulOk λi j=>.int<|i*j):=opI λ_ _ _ _ _ _ _ hc q=>mul_int q hc
theorem lD:OpR X (Ao .FloorDiv) (rI (λ_ j=>0<j/\j.natAbs.log2<9000) λi j=>.int<|i / j):=opI λi j _ _ _ _ _ hc q=>by have h1:(0:Int)<j:=hc.1;exact floordiv_int (by omega) (by rw[aAf i<|by omega];exact q) (.inl<|PyProof.noPylong_of_log2 hc.2)
theorem aIN{op:CmpOp}{g:Int->Int->Bool}{i j:Int}(ho:OpR X (AW op) (rI0 λi j=>.bl<|g i j))(ha:PEd X sd a (.val<|.int i))(hb:PEd X sd b (.val<|.int j))(hm:AU op b=false):PEd X sd (.Compare a [op] [b] pos) (.val (.bl<|g i j)):=
 tJ ho ha hb trivial hm λσ F H v u Q S q1 q2 k=>by simp only[ResOk,Rep] at q1 q2;exact⟨i,j,q1,q2,k F H S<|Same.refl _⟩
theorem rV{op:CmpOp}{g:Int->Int->Bool}{i j:Int}(ho:OpR X (AW op) (rI0 λi j=>.bl<|g i j))(ha:PEd X sd a (.val<|.int i))(hb:PEd X sd b (.val<|.int j))(hm:AU op b=false):PTd X sd (.Compare a [op] [b] pos) (g i j):=
 kZ ho ha hb trivial hm λσ F H v u Q S q1 q2 k=>by simp only[ResOk,Rep] at q1 q2;exact⟨i,j,q1,q2,k F H S<|Same.refl _⟩
noncomputable def flt:D->Option V
 |.non=>some .non
 |.bl b=>some<|.bl b
 |.int i=>some<|.int i
 |.str x=>some<|.str x
 |_=>none
theorem lM{x:V}(h:flt d=some x)(q:Rep K H d v):v=x:=by
 cases d with
 |non=>simp only[Rep] at q;simp only[flt] at h;rw[q];exact bM.inj h
 |bl=>simp only[Rep] at q;simp only[flt] at h;rw[q];exact bM.inj h
 |int=>simp only[Rep] at q;simp only[flt] at h;rw[q];exact bM.inj h
 |str=>simp only[Rep] at q;simp only[flt] at h;rw[q];exact bM.inj h
 |tup=>simp only[flt] at h;cases h
 |lst=>simp only[flt] at h;cases h
 |dic=>simp only[flt] at h;cases h
 |dki=>simp only[flt] at h;cases h
 |any=>simp only[flt] at h;cases h
 |scr=>simp only[flt] at h;cases h
theorem aKO{x:V}(h:flt d=some x):Rep K H d x:=by
 cases d with
 |non=>simp only[flt] at h;simp only[Rep];exact(bM.inj h).symm
 |bl=>simp only[flt] at h;simp only[Rep];exact(bM.inj h).symm
 |int=>simp only[flt] at h;simp only[Rep];exact(bM.inj h).symm
 |str=>simp only[flt] at h;simp only[Rep];exact(bM.inj h).symm
 |tup=>simp only[flt] at h;cases h
 |lst=>simp only[flt] at h;cases h
 |dic=>simp only[flt] at h;cases h
 |dki=>simp only[flt] at h;cases h
 |any=>simp only[flt] at h;cases h
 |scr=>simp only[flt] at h;cases h
theorem jI{d1 d2:D}{x y:V}{k:Bool}(ha:PEd X sd a (.val d1))(hb:PEd X sd b (.val d2))(h1:flt d1=some x)(h2:flt d2=some y)(hs:aLu x y=true)(hk:decide (x=y)=k):PTd X sd (.Compare a [.Eq] [b] pos) k:=
 kZ aLI ha hb trivial (iH _) λσ F H v u Q S q1 q2 kk=>by have e1:=lM h1 q1;have e2:=lM h2 q2;subst e1 e2;exact⟨hs,by rw[hk];exact kk F H S<|Same.refl _⟩
theorem aEa{d1 d2:D}{x y:V}{k:Bool}(ha:PEd X sd a (.val d1))(hb:PEd X sd b (.val d2))(h1:flt d1=some x)(h2:flt d2=some y)(hs:aLu x y=true)(hk:(!decide (x=y))=k):PTd X sd (.Compare a [.NotEq] [b] pos) k:=
 kZ aOT ha hb trivial (iH _) λσ F H v u Q S q1 q2 kk=>by have e1:=lM h1 q1;have e2:=lM h2 q2;subst e1 e2;exact⟨hs,by rw[hk];exact kk F H S<|Same.refl _⟩
theorem tK{i j:Int}(ha:PEd X sd a (.val<|.int i))(hb:PEd X sd b (.val<|.int j)):PTd X sd (.Compare a [.Eq] [b] pos) (decide<|i=j):=jI ha hb rfl rfl rfl (by rw[aAr,Bool.beq_eq_decide_eq])
theorem vJ{n:Nat}(ha:PEd X sd a (.val<|.tup ds))(hb:PEd X sd b (.val<|.int (n:Int)))(hd:ds[n]? =some d)(hs:oU b):PEd X sd (.Subscript a b pos) (.val d):=.mk λσ F H S=>
 (aIS aNB eR eR hs).to ((ha σ F H S).imp fun v H1 ⟨F1,S1,s1,q1⟩=>(hb σ F1 H1 S1).imp fun u H2 ⟨F2,S2,s2,q2⟩=>by
  have q1:=Rep.mono s2 q1;simp only[ResOk,Rep] at q1 q2;obtain⟨p,xs,e1,hp,rl⟩:=q1;obtain⟨w,hw,rw'⟩:=rl.get hd
  exact⟨p,xs,(n:Int),w,e1,q2,.of (S2.sub _ _ hp),zP hw,F2,S2,s1.trans s2,rw'⟩)
theorem mZ{n:Nat}(ha:PEd X sd a (.bor ds))(hb:PEd X sd b (.val<|.int (n:Int)))(hd:ds[n]? =some d)(hs:oU b):PEd X sd (.Subscript a b pos) (.val d):=.mk λσ F H S=>
 (aIS aDW eR eR hs).to ((ha σ F H S).imp fun v H1 ⟨F1,S1,s1,q1⟩=>(hb σ F1 H1 S1).imp fun u H2 ⟨F2,S2,s2,q2⟩=>by
  obtain⟨p,xs,e1,hp,rl,_⟩:=ResOk.keep (r:=.bor ds) trivial q1 S2 s2;simp only[ResOk,Rep] at q2;obtain⟨w,hw,rw'⟩:=rl.get hd
  exact⟨p,xs,(n:Int),w,e1,q2,.of hp,zP hw,F2,S2,s1.trans s2,rw'⟩)
theorem aNv{ns:List Int}{n:Nat}{z:Int}(ha:PEd X sd a (.val<|.scr ns))(hb:PEd X sd b (.val<|.int (n:Int)))(hd:ns[n]? =some z)(hs:oU b):PEd X sd (.Subscript a b pos) (.val<|.int z):=.mk λσ F H S=>
 (aIS aDW eR eR hs).to ((ha σ F H S).imp fun v H1 ⟨F1,S1,s1,q1⟩=>(hb σ F1 H1 S1).imp fun u H2 ⟨F2,S2,s2,q2⟩=>by
  have q1:=Rep.mono (s2.trans S2.sub) q1;simp only[ResOk,Rep] at q1 q2;obtain⟨p,e1,hp⟩:=q1
  exact⟨p,_,(n:Int),.int z,e1,q2,hp,zP (by rw[aZ,hd];rfl),F2,S2,s1.trans s2,by simp only[ResOk,Rep]⟩)
theorem nR{x:Str}{p:Pos}{id:String}{rr:List V->Hp->VK->Prop}{rs:List R}(hc:mL X (.builtin id) rr)(hg:Gl X x)(hm:X.mg x=none)(hv:Ai x=some (.builtin id))(ha:PAd X sd (e::es) rs)
  (h:∀ (σ:St) (F H:Hp) (vs:List V) (Q:VK),StF X.K X.B₀ F H σ sd->RsOk X.K F H sd rs vs->(∀w F' H',StF X.K X.B₀ F' H' σ sd->Same F F'->ResOk X.K F' H' sd r w->Q w H')->rr vs H Q)
  (hn:x≠"__name__":=by decide) (hdb:(x==("__debug__":Str))=false:=by decide) (he:AB (e::es) X.env=(false,eval e X.env)::AB es X.env:=by rfl) (hpl:(Aa pos<|AB es X.env).any (·.1)=false:=by rfl):
  PEd X sd (.Call (.Name x p) (e::es) [] pos) r:=.mk λσ F H S=>
 (nJ hc hg hm hv qT hn hdb he hpl).to ((ha σ F H S).imp λvs H1 ⟨F1,S1,s1,q1⟩=>h σ F1 H1 vs _ S1 q1 λw F' H' S' s' q'=>⟨F',S',s1.trans s',q'⟩)
theorem xW{x:Str}{p:Pos}{T:String}{rr:List V->Hp->VK->Prop}{rs:List R}(hc:mL X (.type T) rr)(hg:Gl X x)(hm:X.mg x=none)(hv:Ai x=some (.type T))(ha:PAd X sd (e::es) rs)
  (h:∀ (σ:St) (F H:Hp) (vs:List V) (Q:VK),StF X.K X.B₀ F H σ sd->RsOk X.K F H sd rs vs->(∀w F' H',StF X.K X.B₀ F' H' σ sd->Same F F'->ResOk X.K F' H' sd r w->Q w H')->rr vs H Q)
  (hn:x≠"__name__":=by decide) (hdb:(x==("__debug__":Str))=false:=by decide) (he:AB (e::es) X.env=(false,eval e X.env)::AB es X.env:=by rfl) (hpl:(Aa pos<|AB es X.env).any (·.1)=false:=by rfl):
  PEd X sd (.Call (.Name x p) (e::es) [] pos) r:=.mk λσ F H S=>
 (aEu hc hg hm hv qT hn hdb he hpl).to ((ha σ F H S).imp λvs H1 ⟨F1,S1,s1,q1⟩=>h σ F1 H1 vs _ S1 q1 λw F' H' S' s' q'=>⟨F',S',s1.trans s',q'⟩)
theorem aKg{p:Pos}(hg:Gl X "len")(hm:X.mg "len"=none)(ha:PEd X sd e (.val<|.tup ds))(hst:AB [e] X.env=(false,eval e X.env)::AB [] X.env:=by rfl):PEd X sd (.Call (.Name "len" p) [e] [] pos) (.val<|.int ds.length):=
 nR (he:=hst) mS hg hm PySem.boot_len (aB ha aM trivial hst) λσ F H vs Q S q k=>by
  cases q with
  |cons q1 q2=>cases q2;simp only[ResOk,Rep] at q1;obtain⟨p,xs,rfl,hp,rl⟩:=q1;refine⟨p,xs,rfl,.inr (.of<|S.sub _ _ hp),k _ F H S (Same.refl _) ?_⟩;simp only[ResOk,Rep,rl.len]
theorem tH{p:Pos}(hg:Gl X "len")(hm:X.mg "len"=none)(ha:PEd X sd e (.bor ds))(hst:AB [e] X.env=(false,eval e X.env)::AB [] X.env:=by rfl):PEd X sd (.Call (.Name "len" p) [e] [] pos) (.val<|.int ds.length):=
 nR (he:=hst) mS hg hm PySem.boot_len (aB ha aM trivial hst) λσ F H vs Q S q k=>by
  cases q with
  |cons q1 q2=>cases q2;obtain⟨p,xs,rfl,hp,rl,_⟩:=q1;refine⟨p,xs,rfl,.inl<|.of hp,k _ F H S (Same.refl _) ?_⟩;simp only[ResOk,Rep,rl.len]
theorem aKb{p:Pos}{ns:List Int}(hg:Gl X "len")(hm:X.mg "len"=none)(ha:PEd X sd e (.val<|.scr ns))(hst:AB [e] X.env=(false,eval e X.env)::AB [] X.env:=by rfl):PEd X sd (.Call (.Name "len" p) [e] [] pos) (.val<|.int ns.length):=
 nR (he:=hst) mS hg hm PySem.boot_len (aB ha aM trivial hst) λσ F H vs Q S q k=>by
  cases q with
  |cons q1 q2=>cases q2;have q1:=Rep.mono S.sub q1;simp only[Rep] at q1;obtain⟨p,rfl,hp⟩:=q1;refine⟨p,_,rfl,.inl hp,k _ F H S (Same.refl _) ?_⟩;simp only[ResOk,Rep,aC]
theorem aKm{x:Str}{n:String}(hg:Gl X x)(hm:X.mg x=none)(hv:Ai x=some (.type n))(hn:x≠"__name__":=by decide)(hd:(x==("__debug__":Str))=false:=by decide):PE X (.Name x pos) (tC<|.ty n):=aJp hg hm hv rfl hn hd
theorem eB(h:E.nx sd):PSd X sd [] E:=.mk λσ F H S=>pss_nil.to ⟨sd,F,S,Same.refl _,h⟩
theorem aO(h:PSd1 X sd st {E with nx:=λsd'=>PSd X sd' rest E}):PSd X sd (st::rest) E:=.mk λσ F H S=>
 (wD aPn pss_w).to (wS.imp (h σ F H S) (fun σ' H' ⟨sd',F',S',s',q⟩=>(q σ' F' H' S').imp (fun σ2 H2 ⟨sd2,F2,S2,s2,q2⟩=>⟨sd2,F2,S2,s'.trans s2,q2⟩) (fun v H2 q2=>q2)
  (λσ2 H2 ⟨sd2,F2,S2,s2,q2⟩=>⟨sd2,F2,S2,s'.trans s2,q2⟩) λσ2 H2 ⟨sd2,F2,S2,s2,q2⟩=>⟨sd2,F2,S2,s'.trans s2,q2⟩) (λv H q=>q) (λσ H q=>q) λσ H q=>q)
theorem aX(h:PSd1 X sd st E):PSd X sd [st] E:=.mk λσ F H S=>(aDD aPn).to<|h σ F H S
theorem eJ(h:PEd X sd e r)(hr:match r with | .bor _=>False|_=>True)(hE:E.rt r):PSd1 X sd (.Return (some e) pos) E:=.mk λσ F H S=>
 (rW eR).to ((h σ F H S).imp fun v H' ⟨F',S',s',q⟩=>⟨r,⟨F',S'.base,S'.sub,S'.smp,by
  cases r with
  |val d=>exact q
  |own ds=>obtain⟨l,xs,a,b,c,d,_⟩:=q;exact⟨l,xs,a,b,c,d,by simp[bU]⟩
  |pr d ls=>obtain⟨t,l,xs,y,a,b,c,d,e,f,_⟩:=q;exact⟨t,l,xs,y,a,b,c,d,e,f,by simp[bU]⟩
  |ox G=>obtain⟨ls,nd,h,g⟩:=q;exact⟨ls,nd,λl hl=>⟨(h l hl).1,(h l hl).2.1,by simp[bU]⟩,g⟩
  |bor ds=>exact hr.elim⟩,hE⟩)
theorem qK(i:Nat){x:Str}{p:Pos}{l:BF}(hs:sd[i]? =some (.own l ds))(h:PE X (.Name x p) (iI i))(hE:E.rt (.own ds)):PSd1 X sd (.Return (some<|.Name x p) pos) E:=.mk λσ F H S=>
 (rW h).to (by
  obtain⟨o,h1,h2,n,xs,q,rl⟩:=S.slots.get hs
  exact⟨.ref l,by rw[h1,h2],.own ds,⟨F,S.base,S.sub,S.smp,l,xs,rfl,n,q,rl,by simp[bU]⟩,hE⟩)
theorem fD{k:Bool}{a o:List BJ}(h:PTd X sd c k)(h1:k=true->PSd X sd a E)(h2:k=false->PSd X sd o E):PSd1 X sd (.If c a o pos) E:=.mk λσ F H S=>
 (aOP aHv pss_w pss_w).to ((h σ F H S).imp fun k' H' ⟨e,F',S',s'⟩=>by
  have up:∀ {sts:List BJ},PSd X sd sts E->wSs X sts (lft X F E) σ H':=λh=>(h σ F' H' S').imp (λσ2 H2 ⟨sd2,F2,S2,s2,q2⟩=>⟨sd2,F2,S2,s'.trans s2,q2⟩) (λv H2 q2=>q2)
   (λσ2 H2 ⟨sd2,F2,S2,s2,q2⟩=>⟨sd2,F2,S2,s'.trans s2,q2⟩) λσ2 H2 ⟨sd2,F2,S2,s2,q2⟩=>⟨sd2,F2,S2,s'.trans s2,q2⟩
  subst e;cases k' with
  |true=>exact aIC (up<|h1 rfl)
  |false=>exact aIH (up (h2 rfl)))
theorem aBE(h:PEd X sd e r)(hE:E.nx sd)(hs:AY e none pos.line X.env=pure false:=by rfl):PSd1 X sd (.Expr e pos) E:=.mk λσ F H S=>(oR eR hs).to<|(h σ F H S).imp λv H' ⟨F',S',s',_⟩=>⟨sd,F',S',s',hE⟩
theorem iA:∀ {sd:List Slot}{z:Slot} (i:Nat),(bU sd).Nodup->(∀l,l∈fC z->l∉bU sd\/(∃z',sd[i]? =some z'/\l∈fC z'))->(hz:(fC z).Nodup:=by simp[fC])->(bU<|sd.set i z).Nodup/\∀l,l∈bU (sd.set i z)->l∈bU sd\/l∈fC z
 |[],z,i,h,_,_=>⟨h,λl hl=>.inl hl⟩
 |z'::zs,z,0,h,hz,nz=>by
  show(fC z++bU zs).Nodup/\∀l,l∈fC z++bU zs->_;obtain⟨n1,n2,n3⟩:=bE.mp (show(fC z'++bU zs).Nodup from h);refine⟨bE.mpr ⟨nz,n2,λa ha b hb e=> ?_⟩,λl hl=> ?_⟩
  ·subst e
   rcases hz a ha with y|⟨z2,e2,y⟩
   ·exact y<|aI _ hb
   ·have:z'=z2:=by simpa using e2
    subst this;exact n3 a y a hb rfl
  ·rcases aU.mp hl with y|y
   ·exact .inr y
   ·exact .inl<|aI _ y
 |z'::zs,z,i+1,h,hz,nz=>by
  show(fC z'++bU (zs.set i z)).Nodup/\∀l,l∈fC z'++bU (zs.set i z)->_;obtain⟨n1,n2,n3⟩:=bE.mp (show(fC z'++bU zs).Nodup from h)
  obtain ⟨i1,i2⟩:=iA (sd:=zs) (z:=z) i n2 (fun l hl=>by
   rcases hz l hl with y|⟨z2,e2,y⟩
   ·exact .inl λq=>y<|aI _ q
   ·exact .inr ⟨z2,by simpa using e2,y⟩) nz
  refine⟨bE.mpr ⟨n1,i1,λa ha b hb e=> ?_⟩,λl hl=> ?_⟩
  ·subst e
   rcases i2 a hb with y|y
   ·exact n3 a ha a y rfl
   ·rcases hz a y with y|⟨z2,e2,y⟩
    ·exact y<|bL _ ha
    ·have m:a∈bU zs:=dU.mpr ⟨z2,aY (by simpa using e2),y⟩;exact n3 a ha a m rfl
  ·rcases aU.mp hl with y|y
   ·exact .inl<|bL _ y
   ·rcases i2 l y with y|y
    ·exact .inl<|aI _ y
    ·exact .inr y
theorem StF.set(S:StF K H₀ F H σ sd)(i:Nat)(q:Rep K F d v):StF K H₀ F H (σ.set i (some v)) (sd.set i<|.val d):=
 ⟨S.base,S.sub,S.smp,S.slots.set (z:=.val d) ⟨v,rfl,q⟩ i,(iA i S.nd λl e=>by simp[fC] at e).1⟩
theorem StF.setO{l:BF}{xs:List V}(S:StF K H₀ F H σ sd)(i:Nat)(n:F l=none)(h:H l=some (.lst xs))(q:RepL K F ds xs)(no:l∉bU sd):StF K H₀ F H (σ.set i (some<|.ref l)) (sd.set i<|.own l ds):=
 ⟨S.base,S.sub,S.smp,S.slots.set (z:=.own l ds) ⟨rfl,n,xs,h,q⟩ i,(iA i S.nd λl' e=>by rw[aH.mp e];exact .inl no).1⟩
theorem iD(i:Nat){x:Str}{p:Pos}(hN:X.N.Nodup)(hi:X.N[i]? =some x)(hx:Loc X.env.scope x)(h:PEd X sd e (.val d))(hE:E.nx (sd.set i<|.val d))(hs:AY e (some<|.Name x p) pos.line X.env=pure false:=by rfl)
  (hf:X.fn x=true\/X.env.scope.names.lookup x=some .local:=by first|exact .inl rfl|exact .inr rfl|assumption):PSd1 X sd (.Assign [.Name x p] e pos) E:=.mk λσ F H S=>
 (pN hN hi hx eR hs hf).to ((h σ F H S).imp λv H' ⟨F',S',s',q⟩=>⟨_,F',S'.set i q,s',hE⟩)
theorem wQ(i:Nat){x:Str}{p:Pos}(hN:X.N.Nodup)(hi:X.N[i]? =some x)(hx:Loc X.env.scope x)(h:PEd X sd e (.own ds))(hE:∀l,E.nx (sd.set i<|.own l ds))(hs:AY e (some<|.Name x p) pos.line X.env=pure false:=by rfl)
  (hf:X.fn x=true\/X.env.scope.names.lookup x=some .local:=by first|exact .inl rfl|exact .inr rfl|assumption):PSd1 X sd (.Assign [.Name x p] e pos) E:=.mk λσ F H S=>
 (pN hN hi hx eR hs hf).to ((h σ F H S).imp λv H' ⟨F',S',s',l,xs,e,n,q,rl,no⟩=>⟨_,F',by subst e;exact S'.setO i n q rl no,s',hE l⟩)
noncomputable def Le:List Slot->List Slot->Prop
 |[],[]=>True
 |x::xs,y::ys=>(y=.un\/x=y)/\Le xs ys
 |_,_=>False
theorem Le.refl:∀ (sd:List Slot),Le sd sd
 |[]=>trivial
 |_::xs=>⟨.inr rfl,Le.refl xs⟩
theorem Le.own:∀ {sd sd':List Slot},Le sd sd'->(bU sd').Sublist (bU sd)
 |[],[],_=>List.Sublist.refl _
 |[],_::_,h=>h.elim
 |_::_,[],h=>h.elim
 |x::xs,y::ys,h=>by
  obtain⟨h1,h2⟩:=h;have ih:=Le.own h2
  rcases h1 with rfl|rfl
  ·exact ih.trans<|List.sublist_append_right _ _
  ·exact List.Sublist.append (List.Sublist.refl _) ih
theorem Le.slots{K:aA}{F H:Hp}:∀ {sd sd':List Slot}{σ:St},Le sd sd'->SlotsOk K F H sd σ->SlotsOk K F H sd' σ
 |[],[],_,_,h=>h
 |[],_::_,_,h,_=>h.elim
 |_::_,[],_,h,_=>h.elim
 |x::xs,y::ys,σ,h,q=>by
  obtain⟨h1,h2⟩:=h;obtain⟨o,r,rfl,a,b⟩:=q;refine⟨o,r,rfl, ?_,Le.slots h2 b⟩
  rcases h1 with rfl|rfl
  ·trivial
  ·exact a
theorem StF.le{sd':List Slot}(S:StF K H₀ F H σ sd)(h:Le sd sd'):StF K H₀ F H σ sd':=⟨S.base,S.sub,S.smp,h.slots S.slots,S.nd.sublist h.own⟩
theorem aMm{sd':List Slot}{sts:List BJ}(h:Le sd sd')(q:PSd X sd' sts E):PSd X sd sts E:=.mk λσ F H S=>q σ F H<|S.le h
theorem aME{F₀:Hp}{sts:List BJ}(s:Same F₀ F)(h:wSs X sts (lft X F E) σ H):wSs X sts (lft X F₀ E) σ H:=
 h.imp (λσ2 H2 ⟨sd2,F2,S2,s2,q2⟩=>⟨sd2,F2,S2,s.trans s2,q2⟩) (λv H2 q2=>q2) (λσ2 H2 ⟨sd2,F2,S2,s2,q2⟩=>⟨sd2,F2,S2,s.trans s2,q2⟩) λσ2 H2 ⟨sd2,F2,S2,s2,q2⟩=>⟨sd2,F2,S2,s.trans s2,q2⟩
theorem gB:∀ (sd:List Slot) (i:Nat),Le sd (sd.set i .un)
 |[],_=>trivial
 |_::xs,0=>⟨.inl rfl,Le.refl xs⟩
 |_::xs,i+1=>⟨.inr rfl,gB xs i⟩
theorem gF:∀ {sd:List Slot}{i:Nat}{l:BF}{z:Slot},(bU sd).Nodup->sd[i]? =some z->l∈fC z->l∉bU (sd.set i .un)
 |[],_,_,_,_,e,_=>by simp at e
 |y::zs,0,l,z,h,e,hl=>by
  have:y=z:=by simpa using e
  subst this;obtain⟨n1,n2,n3⟩:=bE.mp (show(fC y++bU zs).Nodup from h);exact λhm=>n3 l hl l hm rfl
 |y::zs,i+1,l,z,h,e,hl=>by
  have e':zs[i]? =some z:=by simpa using e
  obtain⟨n1,n2,n3⟩:=bE.mp (show(fC y++bU zs).Nodup from h);have ml:l∈bU zs:=dU.mpr ⟨_,aY e',hl⟩;intro hm
  rcases aU.mp (show l∈fC y++bU (zs.set i .un) from hm) with q|q
  ·exact n3 l q l ml rfl
  ·exact gF n2 e' hl q
theorem rP{i:Nat}{l:BF}(h:(bU sd).Nodup)(e:sd[i]? =some (.own l ds)):l∉bU (sd.set i .un):=gF h e<|bX l
theorem lF{i:Nat}{o:Option V}(h:σ[i]? =some o):σ.set i o=σ:=by obtain⟨hi,e⟩:=aD.mp h;rw[<-e];exact oZ hi
theorem jF(sd:List Slot)(i:Nat)(x y:Slot):(sd.set i x).set i y=sd.set i y:=by simp
theorem StF.wr{i:Nat}{l:BF}{ds':List D}{xs':List V}(S:StF K H₀ F H σ sd)(hs:sd[i]? =some (.own l ds))(rl:RepL K F ds' xs'):StF K H₀ F (upd H l<|.lst xs') σ (sd.set i<|.own l ds'):=by
 obtain⟨o,h1,h2,n,xs,q,_⟩:=S.slots.get hs;have no:=rP S.nd hs;have S0:=S.le<|gB sd i;refine⟨S.base,λb u e=> ?_,λb u e=> ?_, ?_, ?_⟩
 ·rw[aR<|cC e n];exact S.sub _ _ e
 ·by_cases h:b=l
  ·subst h;rw[bJ] at e;cases e;trivial
  ·rw[aR h] at e;exact S.smp _ _ e
 ·have q1:SlotsOk K F (upd H l<|.lst xs') (sd.set i .un) σ:=S0.slots.mono (Same.refl _) λl' hl=>by
   obtain⟨n',ys,q',_⟩:=S0.slots.owns hl;have hne:l'≠l:=λz=>no<|z▸hl
   exact⟨n',λys e=>by rw[aR hne];exact e⟩
  have q2:=q1.set (z:=.own l ds') (o:=some<|.ref l) ⟨rfl,n,xs',bJ,rl⟩ i;rw[jF,lF<|by rw[h1,h2]] at q2;exact q2
 ·have:=iA (z:=Slot.own l ds') i S0.nd λl' e=>by rw[aH.mp e];exact .inl no
  rw[jF] at this;exact this.1
theorem iB(i:Nat){l:BF}{sts:List BJ}(hs:sd[i]? =some (.own l ds))(h:PSd X (sd.set i (.val<|.lst ds)) sts E):PSd X sd sts E:=.mk λσ F H S=>by obtain⟨o,h1,h2,n,xs,q,rl⟩:=S.slots.get hs;have S0:=S.le<|gB sd i;obtain⟨S1,s1⟩:=S0.freeze q n<|rP S.nd hs;have S2:=S1.set (d:=.lst ds) (v:=.ref l) i (by simp only[Rep];exact⟨l,xs,rfl,bJ,rl.mono s1⟩);rw[jF,lF<|by rw[h1,h2]] at S2;exact aME s1<|h σ _ H S2
theorem vP(i:Nat){x:Str}{p ap cp:Pos}{l:BF}(hs:sd[i]? =some (.own l ds))(hx:PE X (.Name x p) (iI i))(h:PEd X sd e (.val d))(hl:ds.length<=10000)(hE:E.nx (sd.set i (.own l<|ds++[d])))
  (hst:AB (e::[]) X.env=(false,eval e X.env)::AB [] X.env:=by rfl)
  (hm:PE X (.Call (.Attribute (.Name x p) "append" ap) [e] [] cp) (tBM X.K "list" tU (iI i)<|nV (wE X e) aFG):=by exact aIM mQ xQ xR yB (pv _) (cY eR pa_nil))
  (hsw:AY (.Call (.Attribute (.Name x p) "append" ap) [e] [] cp) none pos.line X.env=pure false:=by rfl):
  PSd1 X sd (.Expr (.Call (.Attribute (.Name x p) "append" ap) [e] [] cp) pos) E:=.mk λσ F H S=>
 (oR hm hsw).to (by
  obtain⟨o,h1,h2,n,xs,q,rl⟩:=S.slots.get hs;refine⟨.ref l,by rw[h1,h2],.inl ⟨rfl,xs,.of q⟩,(h σ F H S).imp λv H1 ⟨F1,S1,s1,q1⟩=> ?_⟩;obtain⟨o',h1',h2',n',xs',q',rl'⟩:=S1.slots.get hs
  exact⟨l,xs',v,rfl,rfl,q',by rw[rl'.len];exact eV hl,_,F1,S1.wr hs (rl'.app (.one q1)),s1,hE⟩)
theorem aBS(i:Nat){x:Str}{p ap cp:Pos}{l:BF}{ds2:List D}(hs:sd[i]? =some (.own l ds))(hx:PE X (.Name x p) (iI i))(h:PEd X sd e (.val<|.lst ds2))(hl:ds.length+ds2.length<=10000)(hE:E.nx (sd.set i (.own l<|ds++ds2)))
  (hst:AB (e::[]) X.env=(false,eval e X.env)::AB [] X.env:=by rfl)
  (hm:PE X (.Call (.Attribute (.Name x p) "extend" ap) [e] [] cp) (tBM X.K "list" aDX (iI i)<|nV (wE X e) aFG):=by exact aIM mQ PySem.F.slot_list_extend PySem.F.type_list_extend aFe (pv _) (cY eR pa_nil))
  (hsw:AY (.Call (.Attribute (.Name x p) "extend" ap) [e] [] cp) none pos.line X.env=pure false:=by rfl):
  PSd1 X sd (.Expr (.Call (.Attribute (.Name x p) "extend" ap) [e] [] cp) pos) E:=.mk λσ F H S=>
 (oR hm hsw).to (by
  obtain⟨o,h1,h2,n,xs,q,rl⟩:=S.slots.get hs;refine⟨.ref l,by rw[h1,h2],.inl ⟨rfl,xs,.of q⟩,(h σ F H S).imp λv H1 ⟨F1,S1,s1,q1⟩=> ?_⟩;obtain⟨o',h1',h2',n',xs',q',rl'⟩:=S1.slots.get hs;simp only[ResOk,Rep] at q1;obtain⟨b,zs,rfl,hb,rb⟩:=q1
  exact⟨l,b,xs',zs,rfl,rfl,q',S1.sub _ _ hb,by rw[rl'.len,rb.len];exact dA (eV hl),_,F1,S1.wr hs (rl'.app rb),s1,hE⟩)
noncomputable def spC(K:aA)(n:Nat)(C:List D->R->Prop):Sp:=λvs H Q _=>vs.length=n/\Smp H/\∃ds r,RepL K H ds vs/\C ds r/\∀v H',aFI K H H' r v->Q v H'
noncomputable def spF(K:aA)(n:Nat)(C:List D->R->Prop):Sp:=λvs H Q _=>vs.length=n/\Smp H/\∃F ds r,Same F H/\RepL K F ds vs/\C ds r/\∀v F2 F3 H',Same F F2->Same F2 F3->Same F3 H'->Same H H'->Smp H'->(∀b o,H b=some o->F b=none->F3 b=none)->ResOk K F2 F3 [] r v->Q v H'
noncomputable def qR(F H:Hp):Hp:=λb=>match F b with
 |some o=>some o
 |none=>H b
theorem qU:Same F (qR F H):=λb o e=>by unfold qR;rw[e]
theorem qD{b:BF}(h:F b=none):qR F H b=H b:=by unfold qR;rw[h]
theorem FnOk.framed{P:AE}{w:AL}{mg:Str->Option BD}{base:BH}{k n:Nat}{f:BF}{fd:AN}{ps:List Str}{C:List D->R->Prop}(G:FnOk P w K mg base CX0 k f fd ps (spC K n C)):FnOk P w K mg base CX0 k f fd ps (spF K n C):=by
 refine⟨λvs H Q E h=> ?_,λA outer s H args us vs Q E hr e0 hb rv h=> ?_⟩
 ·obtain⟨hl,sm,F,ds,r,sF,rl,c,_⟩:=h;exact G.len vs F (λ_ _=>True) E ⟨hl,sm.sub sF,ds,r,rl,c,λ_ _ _=>trivial⟩
 ·obtain⟨hl,sm,F,ds,r,sF,rl,c,q⟩:=h;have e1:Env0 P w K mg base A outer s F:=⟨e0.frames,e0.mod,λb o e=>⟨(e0.bs b o e).1,sF.free (e0.bs b o e).2⟩,e0.bsz,e0.funs,λb hb=>sF.free<|e0.frf b hb,λb o e=>(e0.hok b o<|sF b o e).smp (sm b o<|sF b o e),e0.bare⟩;refine Aj (G.run A outer s F args us vs (λv F3=>aFI K F F3 r v) E hr e1 hb rv ⟨hl,sm.sub sF,ds,r,rl,c,λv H' z=>z⟩) λrr s' hrr=> ?_
  cases rr with
  |error e=>exact hrr
  |ok fl=>
   cases fl with
   |ret u=>
    obtain⟨v,F3,ho,ha,un,hk,ru,F2,s1,s2,sm3,res⟩:=hrr
    have keepF:∀b o,H b=some o->F b=none->F3 b=none:=λb o e n=>by
     have lt:=e0.hok.lt e;cases g:s.heap.get? b with
     |none=>
      exfalso;have ob:=e0.hok b o e;have z:=sm b o e;cases o with
      |lst xs=>obtain⟨_,_,_,_,g'⟩:=ob;rw[g] at g';cases g'
      |tup xs=>obtain⟨_,_,_,oo,g',_⟩:=ob;rw[g] at g';cases g'
      |dK kvs=>obtain⟨_,_,_,_,oo,_,_,g',_⟩:=ob;rw[g] at g';cases g'
      |frz o2 u2=>obtain⟨g',_⟩:=ob;rw[g] at g';cases g'
      |ext φ=>obtain⟨_,⟨oo,g'⟩,_⟩:=ob;rw[g] at g';cases g'
      |_=>exact z
     |some ob=>exact un.free b ob g n<|by simp
    have keepO:∀b o,H b=some o->F b=none->∀ob,s.heap.get? b=some ob->s'.heap.get? b=some ob:=λb o e n ob g=>un.keep b ob g n (λhb=>by have:=e0.frf b hb;rw[e] at this;cases this)<|by simp
    have sH:Same H (qR F3 H):=λb o e=>by
     cases g:F b with
     |none=>rw[qD<|keepF b o e g];exact e
     |some o'=>have:=sF b o' g;rw[e] at this;cases this;exact qU _ _ (s2 _ _<|s1 _ _ g)
    have smM:Smp (qR F3 H):=λb o e=>by
     cases g:F3 b with
     |some o'=>have:=qU (H:=H) b o' g;rw[e] at this;cases this;exact sm3 b o g
     |none=>rw[qD g] at e;exact sm b o e
    refine⟨v,qR F3 H,ho,ha,⟨λb o g n hb hx=>un.keep b o g (sF.free n) hb hx,λb o g n hb hx=>un.slot b o g (sF.free n) hb hx,λb o g n hx=> ?_,un.there,λb xs e=>sH _ _ e,λb o u e=>sH _ _ e,λb ps e=>⟨#[],by rw[sH _ _ e];simp⟩⟩,λb o e=> ?_,ru, ?_⟩
    ·rw[qD<|un.free b o g (sF.free n) hx];exact n
    ·have z:=smM b o e;cases g:F3 b with
     |some o'=>have:=qU (H:=H) b o' g;rw[e] at this;cases this;exact(hk b o g).smp z
     |none=>
      rw[qD g] at e
      have n:F b=none:=by
       cases g2:F b with
       |none=>rfl
       |some o2=>rw[s2 _ _<|s1 _ _ g2] at g;cases g
      have st:=(e0.hok b o e).smp (F:=λ_=>none) z
      have:ObjOk P w (fun _=>none) s'.heap b o:=st.stay (fun b2 u hb2 gg=>by
       rcases hb2 with rfl|hb2
       ·exact keepO _ o e n u gg
       ·cases hb2) (λb2 hb2=>nomatch hb2) λb2 xs hb2=>nomatch hb2
      exact this.smp z
    ·exact q v F2 F3 (qR F3 H) s1 s2 qU sH smM keepF res
   |_=>exact hrr
structure bF(P:AE)(w:AL)(K:aA)(mg:Str->Option BD)(base:BH)(x:Str)(k n:Nat)(C:List D->R->Prop):Prop where
 ex:∃ (f:BF) (fd:AN) (ps:List Str),mg x=some (.ref f)/\cG K (.ref f)=true/\Binds K fd ps []/\FnOk P w K mg base CX0 k f fd ps (spC K n C)
theorem aJE{x:Str}{p:Pos}{k n:Nat}{C:List D->R->Prop}(G:bF X.prog X.w X.K X.mg X.base x k n C)(hr:Room k X.A)(hg:Gl X x)(ha:PAd X sd (e::es) (ds.map R.val))(hc:C ds r)(hb:match r with | .bor _=>False|_=>True)(hn:ds.length=n)
  (hdb:(x==("__debug__":Str))=false:=by decide) (he:AB (e::es) X.env=(false,eval e X.env)::AB es X.env:=by rfl) (hpl:(Aa pos<|AB es X.env).any (·.1)=false:=by rfl):
  PEd X sd (.Call (.Name x p) (e::es) [] pos) r:=.mk λσ F H S=>by
 obtain⟨f,fd,ps,hm,hk,bd,G⟩:=G.ex;refine(zF (FnOk.framed G) hr hg hm hk bd .nil aCK qT hdb he hpl).to<|(ha σ F H S).imp λvs H1 ⟨F1,S1,s1,q1⟩=> ?_;have rl:=q1.vals;refine⟨by rw[bG,rl.len];exact hn,S1.smp,F1,ds,r,S1.sub,by rw[bG];exact rl,hc,λv F2 F3 H' s2 s3 s4 sH sm kp res=> ?_⟩
 have no:∀l,l∈bU sd->F2 l=none/\F3 l=none:=λl hl=>by obtain⟨n1,xs,q,_⟩:=S1.slots.owns hl;have n3:=kp l _ q n1;exact⟨s3.free n3,n3⟩
 refine⟨F2,⟨λb o e=>s2 _ _<|S1.base _ _ e,s3.trans s4,sm,S1.slots.mono s2 λl hl=>⟨(no l hl).1,λys e=>sH _ _ e⟩,S1.nd⟩,s1.trans s2, ?_⟩;cases r with
 |val d=>exact res
 |own ds'=>obtain⟨l,xs,e,n,q,rl',_⟩:=res;exact⟨l,xs,e,n,s4 _ _ q,rl',λhl=>by rw[(no l hl).2] at q;cases q⟩
 |pr d ls=>obtain⟨t,l,xs,y,e,f,g,n,q,rl',_⟩:=res;exact⟨t,l,xs,y,e,f,g,n,s4 _ _ q,rl',λhl=>by rw[(no l hl).2] at q;cases q⟩
 |ox G=>obtain⟨ls,nd,h,g⟩:=res;refine⟨ls,nd,λl hl=> ?_,λF' H'' sF k=>g F' H'' sF λl hl ob q=>k l hl ob<|s4 _ _ q⟩;obtain⟨n,⟨ob,q,w⟩,_⟩:=h l hl;exact⟨n,⟨ob,s4 _ _ q,w⟩,λhm=>by rw[(no l hm).2] at q;cases q⟩
 |bor ds'=>exact hb.elim
noncomputable def R.toD:R->D
 |.val d=>d
 |.own ds=>.lst ds
 |.bor ds=>.lst ds
 |.pr d ls=>.tup [d,.lst ls]
 |.ox _=>.non
theorem RsOk.toD(S:StF K H₀ F H σ sd){rs:List R}{vs:List V}(hk:∀r∈rs,r.keeps)(q:RsOk K F H sd rs vs):RepL K H (rs.map R.toD) vs:=by
 induction q with
 |nil=>exact .nil
 |@cons r v rs vs q t ih=>
  refine .cons ?_ (ih λr hr=>hk r<|aE _ hr);cases r with
  |val d=>exact Rep.mono S.sub q
  |own ds=>exact(hk _ aG).elim
  |pr d ls=>exact(hk _ aG).elim
  |ox G=>exact(hk _ aG).elim
  |bor ds=>obtain⟨l,xs,e,hl,rl,_⟩:=q;simp only[R.toD,Rep];exact⟨l,xs,e,hl,rl.mono S.sub⟩
noncomputable def init(n:Nat)(ds:List D):List Slot:=ds.map Slot.val++eC (n-ds.length) .un
theorem aAT{K:aA}{F H:Hp}:∀n:Nat,SlotsOk K F H (eC n .un) (eC n none)
 |0=>rfl
 |n+1=>⟨none,eC n none,rfl,trivial,aAT n⟩
theorem gT{K:aA}{F H:Hp}{m n:Nat}:∀ {ds:List D}{vs:List V},RepL K F ds vs->SlotsOk K F H (ds.map Slot.val++eC n .un) (vs.map some++eC n none)
 |[],vs,r=>by simp only[RepL] at r;subst r;exact aAT n
 |d::ds,vs,r=>by obtain⟨y,ys,rfl,a,rl⟩:=r.uncons;exact⟨some y,_,rfl,⟨y,rfl,a⟩,gT (m:=m) rl⟩
theorem hX(n:Nat):∀ds:List D,bU (ds.map Slot.val++eC n .un)=[]
 |[]=>by
  induction n with
  |zero=>rfl
  |succ n ih=>exact ih
 |_::ds=>hX n ds
theorem aHP{P:AE}{w:AL}{mg:Str->Option BD}{base:BH}{x qual:Str}{f:BF}{fd:AN}{N ps:List Str}{k:Nat}{C:List D->R->Prop}(F:Fun K x qual st f fd)(S:fK N ps (aK st))
  (body:∀ (cdv:BD) (A:BG) (outer:List Env) (s:BE) (H:Hp) (E:XK),Room k (A.deeper (Ag qual (aK st) s.heap.objs.size f cdv))→∀ds r,ds.length=ps.length→C ds r→
   PSd (jB CX0 P w K mg base N qual (aK st) f cdv A outer s H E).nox (init N.length ds) (cM st) {nx:=λ_=>r=.val .non,rt:=λr'=>r'=r}):FnOk P w K mg base CX0 (k+1) f fd ps (spC K ps.length C):=by
 refine F.ok S (λvs H Q E h=>h.1) λcdv A outer s H vs Q E hr h=> ?_
 obtain⟨hl,sm,ds,r,rl,c,q⟩:=h;have hds:ds.length=ps.length:=by rw[<-rl.len];exact hl
 refine⟨_,pss_w, ?_⟩;have hlen:N.length-vs.length=N.length-ds.length:=by rw[rl.len]
 have S0:StF K H H H (L2.start N vs) (init N.length ds):=by
  refine⟨Same.refl _,Same.refl _,sm, ?_, ?_⟩
  ·unfold L2.start init;rw[hlen];exact gT (m:=0) rl
  ·unfold init;rw[hX];exact cI
 refine(body cdv A outer s H E hr ds r hds c (L2.start N vs) H H S0).imp ?_ ?_ (λ_ _ ⟨_,_,_,_,z⟩=>z) λ_ _ ⟨_,_,_,_,z⟩=>z
 ·rintro σ' H' ⟨sd',F',S',s',e⟩;have e:r=.val .non:=e;subst e;exact q .non H' ⟨F',S'.base,S'.sub,S'.smp,by simp only[ResOk,Rep]⟩
 ·rintro v H' ⟨r',ro,e⟩;have e:r'=r:=e;subst e;exact q v H' ro
theorem aMo{P:AE}{w:AL}{mg:Str->Option BD}{base:BH}{x qual:Str}{f:BF}{fd:AN}{N ps:List Str}{k:Nat}{C:List D->R->Prop}(F:Fun K x qual st f fd)(S:fK N ps (aK st))
  (hm:mg x=some (.ref f)) (hb:∀ (kV doc pm:BD) (an:Option BF) (cdv ct:BD) (us:List BD),us.length=ps.length->bindArgs (bY x qual (dW st) (cM st) (aK st) .none kV doc pm an cdv ct) ⟨us,[]⟩=pure (ps.zip us))
  (body:∀ (cdv:BD) (A:BG) (outer:List Env) (s:BE) (H:Hp) (E:XK),Room k (A.deeper (Ag qual (aK st) s.heap.objs.size f cdv))→∀ds r,ds.length=ps.length→C ds r→
   PSd (jB CX0 P w K mg base N qual (aK st) f cdv A outer s H E).nox (init N.length ds) (cM st) {nx:=λ_=>r=.val .non,rt:=λr'=>r'=r}):bF P w K mg base x (k+1) ps.length C:=
 ⟨f,fd,ps,hm,F.kp,F.binds hb,aHP F S body⟩
variable {tg iter:Expr}
def ItD(K:aA)(F₁:Hp)(P:Hp->Hp->Prop)(J:It)(ds:List D):Prop:=∀ (F H:Hp),Same F₁ F->Same F H->Smp H->P F H->∀i,(i<ds.length->J.go i H)/\(ds.length<=i->J.stop i H)/\
 ∀x H' d,ds[i]? =some d->J.yld i H x H'->∃F',Same F F'/\Rep K F' d x/\∀H₀ σ sd,StF K H₀ F H σ sd->StF K H₀ F' H' σ sd
abbrev PT0:Hp->Hp->Prop:=λ_ _=>True
structure PId(X:Cx)(sd:List Slot)(P:Hp->Hp->Prop)(tg iter:Expr)(ds:List D):Prop where
 run:∀ (σ:St) (F H:Hp),StF X.K X.B₀ F H σ sd->
 wI X tg iter σ H λJ H1=>∃F1,StF X.K X.B₀ F1 H1 σ sd/\Same F F1/\ItD X.K F1 P J ds
instance {X:Cx}{sd:List Slot}{P:Hp→Hp→Prop}{tg iter:Expr}{ds:List D}:CoeFun (PId X sd P tg iter ds) (fun _=>∀ (σ:St) (F H:Hp),StF X.K X.B₀ F H σ sd→
 wI X tg iter σ H λJ H1=>∃F1,StF X.K X.B₀ F1 H1 σ sd/\Same F F1/\ItD X.K F1 P J ds):=⟨PId.run⟩
theorem _root_.L2.PI.to{wi:TI}{R:It->Hp->Prop}(h:PI X tg iter wi)(q:wi σ H R):wI X tg iter σ H R:=λpins s I=>h pins s σ H R I q
theorem jJ(h:PEd X sd iter (.val<|.lst ds)):PId X sd PT0 tg iter ds:=.mk λσ F H S=>
 (aKj eR).to ((h σ F H S).imp fun v H1 ⟨F1,S1,s1,q1⟩=>by
  simp only[ResOk,Rep] at q1;obtain⟨l,xs,rfl,hl,rl⟩:=q1;refine⟨l,rfl,⟨xs,.of<|S1.sub _ _ hl⟩,F1,S1,s1,λF' H' sF sH sm _ i=> ?_⟩;have hl':=sH _ _<|sF _ _ hl;refine⟨λhi=>⟨xs,xs[i]'(by rw[rl.len];exact hi),.of hl',by simp[rl.len,hi]⟩,λhi=>⟨xs,.of hl',by rw[rl.len];exact hi⟩,λx H2 d hd y=> ?_⟩;obtain⟨rfl,y⟩:=y;obtain⟨v,hv,rv⟩:=rl.get hd;have:=y xs<|.of hl';rw[hv] at this;cases this
  exact⟨F',Same.refl _,rv.mono sF,λ_ _ _ S=>S⟩)
theorem oW(h:PEd X sd iter (.val<|.tup ds)):PId X sd PT0 tg iter ds:=.mk λσ F H S=>
 (aMx eR).to ((h σ F H S).imp fun v H1 ⟨F1,S1,s1,q1⟩=>by
  simp only[ResOk,Rep] at q1;obtain⟨l,xs,rfl,hl,rl⟩:=q1;refine⟨l,rfl,⟨xs,.of<|S1.sub _ _ hl⟩,F1,S1,s1,λF' H' sF sH sm _ i=> ?_⟩;have hl':=sH _ _<|sF _ _ hl;refine⟨λhi=>⟨xs,xs[i]'(by rw[rl.len];exact hi),.of hl',by simp[rl.len,hi]⟩,λhi=>⟨xs,.of hl',by rw[rl.len];exact hi⟩,λx H2 d hd y=> ?_⟩;obtain⟨rfl,y⟩:=y;obtain⟨v,hv,rv⟩:=rl.get hd;have:=y xs<|.of hl';rw[hv] at this;cases this
  exact⟨F',Same.refl _,rv.mono sF,λ_ _ _ S=>S⟩)
noncomputable def gX(lo:Int)(n:Nat):List D:=(bR n).map λ(k:Nat)=>D.int<|lo+(k:Int)
theorem gZ(lo:Int)(n:Nat):(gX lo n).length=n:=by simp[gX]
theorem lC{lo:Int}{n i:Nat}(h:(gX lo n)[i]? =some d):i<n/\d=.int (lo+(i:Int)):=by
 unfold gX at h;rw[aZ] at h
 by_cases hi:i<n
 ·rw[aFB hi] at h;exact⟨hi,(bM.inj h).symm⟩
 ·rw[gR<|by simpa using hi] at h;cases h
theorem aFv{F₁:Hp}{lo:Int}{n:Nat}:ItD K F₁ PT0 (Itr lo n) (gX lo n):=λF H _ _ _ _ i=>by refine⟨λhi=>by rw[gZ] at hi;exact hi,λhi=>by rw[gZ] at hi;exact hi,λx H' d hd y=> ?_⟩;obtain⟨rfl,rfl⟩:=y;obtain⟨_,rfl⟩:=lC hd;exact⟨F,Same.refl _,by simp only[Rep],λ_ _ _ S=>S⟩
theorem kR{p:Pos}{n:Nat}(hg:Gl X "range")(hm:X.mg "range"=none)(h:PEd X sd a (.val<|.int (n:Int)))(hn:(n:Int)<2^62)(hs:AB [a] X.env=[(false,eval a X.env)]:=by rfl):PId X sd PT0 tg (.Call (.Name "range" p) [a] [] pos) (gX 0 n):=.mk λσ F H S=>
 (aFf hg hm qT hs).to ((aB h aM trivial hs σ F H S).imp fun vs H1 ⟨F1,S1,s1,q1⟩=>by
  cases q1 with
  |cons q1 q2=>
   cases q2;simp only[ResOk,Rep] at q1;subst q1
   exact⟨(n:Int),rfl,by omega,hn,F1,S1,s1,by rw[dJ];exact aFv⟩)
structure PGd(X:Cx)(sd:List Slot)(tg:Expr)(d:D)(sd':List Slot):Prop where
 run:∀ (σ:St) (F H:Hp) (v:V),StF X.K X.B₀ F H σ sd->Rep X.K F d v->wG X tg v σ H λσ' H'=>∃F',StF X.K X.B₀ F' H' σ' sd'/\Same F F'
instance {X:Cx}{sd:List Slot}{tg:Expr}{d:D}{sd':List Slot}:CoeFun (PGd X sd tg d sd') (λ_=>∀ (σ:St) (F H:Hp) (v:V),StF X.K X.B₀ F H σ sd->Rep X.K F d v->wG X tg v σ H λσ' H'=>∃F',StF X.K X.B₀ F' H' σ' sd'/\Same F F'):=⟨PGd.run⟩
theorem _root_.L2.PG.to{t:TG}{Q:St->Hp->Prop}(h:PG X tg t)(q:t v σ H Q):wG X tg v σ H Q:=λpins s u I r=>h pins s σ H v u Q I r q
theorem aAW(j:Nat)(h:PG X tg (aCJ j)):PGd X sd tg d (sd.set j<|.val d):=.mk λσ F H v S q=>h.to ⟨F,S.set j q,Same.refl _⟩
noncomputable def gNs:List Nat->TGs
 |[]=>aPq
 |j::js=>aMb (aCJ j)<|gNs js
noncomputable def aCS:List Slot->List Nat->List D->List Slot
 |sd,j::js,d::ds=>aCS (sd.set j<|.val d) js ds
 |sd,_,_=>sd
theorem aIt{K:aA}{H₀ F H:Hp}{Q:St->Hp->Prop}:∀ {js:List Nat}{ds:List D}{vs:List V}{σ:St}{sd:List Slot},js.length=ds.length->RepL K F ds vs->StF K H₀ F H σ sd->(∀σ',StF K H₀ F H σ' (aCS sd js ds)->Q σ' H)->gNs js vs σ H Q
 |[],[],vs,σ,sd,_,r,S,k=>by simp only[RepL] at r;exact⟨r,k σ S⟩
 |j::js,d::ds,vs,σ,sd,hl,r,S,k=>by obtain⟨y,ys,rfl,q,rl⟩:=r.uncons;exact⟨y,ys,rfl,aIt (by simpa using hl) rl (S.set j q) k⟩
 |[],_::_,_,_,_,hl,_,_,_=>by simp at hl
 |_::_,[],_,_,_,hl,_,_,_=>by simp at hl
theorem lO{k:Nat}{js:List Nat}(hc:X.calm=true)(h:PGs X es (gNs js))(hl:js.length=ds.length)(hn:(BA es X.env).length=ds.length)(hst:(BA es X.env).findIdx? (·.1)=none:=by rfl):PGd X sd (.Tuple es k pos) (.tup ds) (aCS sd js ds):=.mk λσ F H v S q=>
 (aMh hc h hn hst).to (by
  simp only[Rep] at q;obtain⟨a,xs,rfl,ha,rl⟩:=q
  exact⟨a,xs,rfl,.of (S.sub _ _ ha),rl.len,aIt hl rl S λσ' S'=>⟨F,S',Same.refl _⟩⟩)
theorem qO{body:List BJ}{P:Hp->Hp->Prop}(Sd Td:Nat->List Slot)(hi:PId X sd P tg iter ds)(h0:Le sd (Sd 0))(hg:∀k d,ds[k]? =some d->PGd X (Sd k) tg d (Td k))
  (hb:∀k d,ds[k]? =some d->PSd X (Td k) body {E with nx:=λsd'=>Le sd' (Sd<|k+1),ct:=λsd'=>Le sd' (Sd<|k+1),bk:=E.nx}) (hE:E.nx (Sd ds.length)) (hP:∀k σ F H,StF X.K X.B₀ F H σ (Sd k)->P F H:=by intros;trivial)
  (hc:X.calm=true:=by rfl) (hp:PassesOwn (AG X.prog X.w) X.A X.env X.xe:=by exact PassesOwn.never) (hs:∀x,Ay iter X.env x=pure x:=by intro _;rfl):PSd1 X sd (.For tg iter body [] pos) E:=.mk λσ F H S=>
 (aHD hp hc aPo aOo pss_w hs).to (by
  intro pins s I;refine thn (hi σ F H S pins s I) λv s1 h1=>thn h1 λitv s2 h2=> ?_
  obtain⟨it,fp,tn,J,H2,e,I2,T,st2,f2,F1,S1,s1',itd⟩:=h2;refine⟨it,fp,tn,J,H2,e,I2,T,st2,f2, ?_⟩;refine⟨λi m σ' H'=>m=ds.length-i/\i<=ds.length/\∃F',StF X.K X.B₀ F' H' σ' (Sd i)/\Same F1 F',⟨ds.length,by simp,cQ _,F1,S1.le h0,Same.refl _⟩, ?_⟩;rintro i m σ' H' ⟨rfl,hil,F',S',s'⟩;obtain⟨g1,g2,g3⟩:=itd F' H' s' S'.sub S'.smp (hP _ _ _ _ S') i
  by_cases hlt:i<ds.length
  ·refine .inr ⟨g1 hlt,λσ2 H2=>∃F2,StF X.K X.B₀ F2 H2 σ2 (Sd<|i+1)/\Same F1 F2,λσ2 H2 ⟨F2,S2,s2⟩=>⟨ds.length-(i+1),by omega,rfl,hlt,F2,S2,s2⟩,λx H2 y=> ?_⟩;have hd:ds[i]? =some ds[i]:=by simp[hlt]
   obtain⟨F2,s2,rp,up⟩:=g3 x H2 ds[i] hd y;refine(hg i _ hd σ' F2 H2 x (up _ _ _ S') rp).imp λσ3 H3 ⟨F3,S3,s3⟩=> ?_
   have base:Same F1 F3:=(s'.trans s2).trans s3;refine(hb i _ hd σ3 F3 H3 S3).imp ?_ ?_ ?_ ?_
   ·rintro σ4 H4 ⟨sd4,F4,S4,s4,le⟩;exact⟨F4,S4.le le,base.trans s4⟩
   ·exact λv H4 q=>q
   ·rintro σ4 H4 ⟨sd4,F4,S4,s4,q⟩;exact⟨sd4,F4,S4,(s1'.trans base).trans s4,q⟩
   ·rintro σ4 H4 ⟨sd4,F4,S4,s4,le⟩;exact⟨F4,S4.le le,base.trans s4⟩
  ·have e:i=ds.length:=by omega
   subst e
   exact .inl ⟨g2 (aJ _),Sd ds.length,F',S',s1'.trans s',hE⟩)
theorem Inv.retrack{pins:List (BF×BI)}{σ:St}{H F:Hp}{s s':BE}(I0:Inv X pins σ H s):∀ (ls:List BF),ls.Nodup->(∀l∈ls,F l=none/\(∃xs,H l=some xs/\Wr l xs)/\∀o,s.heap.get? l=some o->s'.heap.get? l=some o)->Inv X pins σ F s'->Inv X pins σ (λb=>if b∈ls then H b else F b) s'
 |[],_,_,I=>by simpa using I
 |l::ls,nd,h,I=>by
  obtain⟨nl,nd'⟩:=bS.mp nd;have J:=Inv.retrack I0 ls nd' (λl' hl=>h l'<|aE _ hl) I;obtain⟨n,⟨xs,hx,wx⟩,kp⟩:=h l aG
  have e:(λb=>if b∈l::ls then H b else F b)=upd (λb=>if b∈ls then H b else F b) l xs:=by
   funext b;unfold upd
   by_cases hb:b=l
   ·subst hb;simp[hx]
   ·simp[hb]
  rw[e];have n':(λb=>if b∈ls then H b else F b) l=none:=by simp[nl,n]
  have ob:=I0.hok l _ hx;clear e;generalize (λb=>if b∈ls then H b else F b)=G at J n' ⊢;refine⟨J.ok,J.os,J.bare,⟨J.base.keep,J.base.slot,λb u g n0 hx0=> ?_,J.base.there,λb ys g=> ?_,λb u ys g=> ?_,λb ps g=> ?_⟩,J.loc,J.cell, ?_,λx c g=> ?_,λp hp=> ?_,J.hok.track n' ?_,J.len⟩
  ·have hb:b≠l:=λq=>by subst q;have:=I0.base.free b u g n0 hx0;rw[hx] at this;cases this
   rw[aR hb];exact J.base.free b u g n0 hx0
  ·have q:=J.base.tups b ys g;rw[aR<|cC q n'];exact q
  ·have q:=J.base.frzs b u ys g;rw[aR<|cC q n'];exact q
  ·obtain⟨m,q⟩:=J.base.tbls b ps g;exact⟨m,by rw[aR<|cC q n'];exact q⟩
  ·rw[aR λq=>by have:=I0.free;rw[q,hx] at this;cases this];exact J.free
  ·rw[aR λq=>by have:=I0.freeC x c g;rw[q,hx] at this;cases this];exact J.freeC x c g
  ·obtain⟨g,n0,rr⟩:=J.pin p hp;refine⟨g, ?_,rr⟩;rw[aR λq=>by have:=(I0.pin p hp).2.1;rw[q,hx] at this;cases this];exact n0
  ·cases xs with
   |lst xs=>obtain⟨z,its,nn,rv,ho⟩:=ob;exact⟨z,its,nn,rv,kp _ ho⟩
   |dK kvs=>obtain⟨z,y,vs,r,o,es,ep,e,c⟩:=ob;exact⟨z,y,vs,r,o,es,ep,kp _ e,c⟩
   |ext φ=>obtain⟨h1,⟨o1,h2⟩,h3⟩:=ob;exact⟨h3 _ _ h1 kp,⟨o1,kp _ h2⟩,h3⟩
   |_=>exact wx.elim
theorem aMT{P:AE}{w:AL}{h:BH}{l:BF}{xs:HO}(wx:Wr l xs)(q:H l=some xs)(ok:ObjOk P w H h l xs):∃ys o,H l=some ys/\Wr l ys/\h.get? l=some o/\∀v,o.data≠ .cell v:=by
 cases xs with
 |lst xs=>obtain⟨_,its,nn,_,ho⟩:=ok;exact⟨_,_,q,trivial,ho,λv z=>by cases z⟩
 |dK kvs=>obtain⟨_,_,_,_,o,es,ep,e,_,d,_⟩:=ok;exact⟨_,_,q,trivial,e,λv z=>by rw[d] at z;cases z⟩
 |ext φ=>obtain⟨o,e,n⟩:=id wx;subst e;exact⟨_,o,q,wx,ok.1,n⟩
 |_=>exact wx.elim
theorem aGW(S:StF X.K X.B₀ F H σ sd)(hr:match r with | .bor _=>False|_=>True)(h:wE X e σ F λv F3=>aFI X.K F F3 r v):wE X e σ H λv H'=>∃F',StF X.K X.B₀ F' H' σ sd/\Same F F'/\ResOk X.K F' H' sd r v:=λpins s I=>by
 have I1:Inv X pins σ F s:=I.less S.sub S.base<|S.smp.sub S.sub
 have ob:∀l∈bU sd,∃xs o,H l=some xs/\Wr l xs/\s.heap.get? l=some o/\∀v,o.data≠ .cell v:=λl hl=>by obtain⟨n,xs,q,wx⟩:=S.slots.owns hl;exact aMT wx q<|I.hok l _ q
 have I2:Inv X (pins++mW (bU sd) s.heap) σ F s:=I1.pins_of λp hp=>(aU.mp hp).elim (λz=>I1.pin p<|aI _ z) λz=>by
  obtain⟨hb,g⟩:=rX z;obtain⟨xs,o,q,_,ho,hc⟩:=ob p.1 hb;rw[g] at ho;cases ho;refine⟨g,(S.slots.owns hb).1,λy=> ?_,λy=> ?_,hc⟩
  ·have:=I.free;rw[<-y,q] at this;cases this
  ·obtain⟨_,o',ho',_⟩:=I.ok.funs.mem y;have:=I.base.free p.1 o' ho' (I.ok.frf p.1 y) λz=>I.ok.exfs p.1 z y
   rw[q] at this;cases this
 refine thn (h _ s I2) λu s' ⟨v,F3,I3,rv,F2,s1,s2,sm3,res⟩=> ?_
 have kp:∀l∈bU sd,F3 l=none/\(∃xs,H l=some xs/\Wr l xs)/\∀o,s.heap.get? l=some o->s'.heap.get? l=some o:=λl hl=>by obtain⟨xs,o,q,wx,ho,_⟩:=ob l hl;have:=I3.pin (l,o)<|aI _ (aI _<|iW hl ho);exact⟨this.2.1,⟨xs,q,wx⟩,λo' g=>by rw[ho] at g;cases g;exact this.1⟩
 have I4:=Inv.retrack I (bU sd) S.nd kp I3.unpinned;refine⟨v,_,I4,rv,F2,⟨λb o g=>s1 _ _<|S.base _ _ g,λb o g=> ?_,λb o g=> ?_,S.slots.mono s1 λl hl=>⟨s2.free (kp l hl).1,λxs g=>by simpa[hl] using g⟩,S.nd⟩,s1, ?_⟩
 ·have g3:=s2 _ _ g;have:b∉bU sd:=λhb=>by rw[(kp b hb).1] at g3;cases g3
  simp[this,g3]
 ·by_cases hb:b∈bU sd
  ·simp[hb] at g;exact S.smp _ _ g
  ·simp[hb] at g;exact sm3 _ _ g
 ·cases r with
  |val d=>exact res
  |own ds'=>
   obtain⟨l,xs,e,n,q,rl',_⟩:=res;have:l∉bU sd:=λhl=>by rw[(kp l hl).1] at q;cases q
   exact⟨l,xs,e,n,by simp[this,q],rl',this⟩
  |pr d ls=>
   obtain⟨t,l,xs,y,e,f,g,n,q,rl',_⟩:=res;have:l∉bU sd:=λhl=>by rw[(kp l hl).1] at q;cases q
   exact⟨t,l,xs,y,e,f,g,n,by simp[this,q],rl',this⟩
  |ox G=>
   obtain⟨ls,nd,h,g⟩:=res
   have no:∀l∈ls,l∉bU sd:=λl hl hm=>by obtain⟨n,⟨ob,q,w⟩,_⟩:=h l hl;rw[(kp l hm).1] at q;cases q
   refine⟨ls,nd,λl hl=> ?_,λF' H' sF k=>g F' H' sF λl hl ob q=>k l hl ob<|by simp[no l hl,q]⟩;obtain⟨n,⟨ob,q,w⟩,_⟩:=h l hl;exact⟨n,⟨ob,by simp[no l hl,q],w⟩,no l hl⟩
  |bor ds'=>exact hr.elim
noncomputable def aLn:Option Slot->Slot
 |some (.val d)=>.val d
 |some (.ox [] G)=>.ox [] G
 |_=>.un
noncomputable def pI(cap:List (Option Nat))(sd:List Slot):List Slot:=cap.map λo=>match o with
 |none=>.un
 |some k=>aLn sd[k]?
theorem aEh{K:aA}{F H F' H':Hp}{σ:St}(h:SlotsOk K F H sd σ)(s:Same F F'):∀cap:List (Option Nat),SlotsOk K F' H' (pI cap sd) (xK cap σ)
 |[]=>rfl
 |o::cap=>by
  refine⟨_,_,rfl, ?_,aEh h s cap⟩;cases o with
  |none=>trivial
  |some k=>
   show dM K F' H' (aLn sd[k]?) _;cases q:sd[k]? with
   |none=>trivial
   |some z=>
    cases z with
    |un=>trivial
    |own l ds=>trivial
    |od l ks ds=>trivial
    |ox ls G=>
     cases ls with
     |cons a ls=>trivial
     |nil=>obtain⟨o,h1,v,h2,h3,h4⟩:=h.get q;subst h2;exact⟨v,by simp[h1],λl hl=>(nomatch hl),λF2 H2 s2 _=>h4 F2 H2 (s.trans s2) λl hl=>(nomatch hl)⟩
    |gh d G=>trivial
    |val d=>obtain⟨o,h1,v,h2,rv⟩:=h.get q;subst h2;exact⟨v,by simp[h1],rv.mono s⟩
theorem uQ:∀ (cap:List (Option Nat)) (sd:List Slot),bU (pI cap sd)=[]
 |[],_=>rfl
 |o::cap,sd=>by
  have ih:=uQ cap sd;cases o with
  |none=>exact ih
  |some k=>
   show bU (aLn sd[k]? ::pI cap sd)=[];cases q:sd[k]? with
   |none=>exact ih
   |some z=>
    cases z with
    |ox ls G=>cases ls<;>exact ih
    |_=>exact ih
noncomputable def unS:Slot->Slot
 |.own _ _=>.un
 |.od _ _ _=>.un
 |.ox [] G=>.ox [] G
 |.ox _ _=>.un
 |z=>z
noncomputable def unO(sd:List Slot):List Slot:=sd.map unS
theorem iY:∀sd:List Slot,bU (unO sd)=[]
 |[]=>rfl
 |.un::r=>iY r
 |.val _::r=>iY r
 |.gh _ _::r=>iY r
 |.own _ _::r=>iY r
 |.od _ _ _::r=>iY r
 |.ox [] _::r=>iY r
 |.ox (_::_) _::r=>iY r
theorem aGV(cap:List (Option Nat))(sd:List Slot):pI cap (unO sd)=pI cap sd:=by
 unfold pI;refine cF λo _=> ?_
 cases o with
 |none=>rfl
 |some k=>
  show aLn (unO sd)[k]? =aLn sd[k]?;unfold unO;rw[aZ];cases q:sd[k]? with
  |none=>rfl
  |some z=>
   cases z with
   |ox ls G=>cases ls<;>rfl
   |_=>rfl
theorem yF{K:aA}{F H H':Hp}:∀ {sd:List Slot}{σ:St},SlotsOk K F H sd σ->SlotsOk K F H' (unO sd) σ
 |[],_,h=>h
 |z::zs,σ,h=>by
  obtain⟨o,r,rfl,a,b⟩:=h;refine⟨o,r,rfl, ?_,yF b⟩;cases z with
  |un=>trivial
  |val d=>exact a
  |gh d G=>exact a
  |od l ks ds=>trivial
  |ox ls G=>
   cases ls with
   |cons a ls=>trivial
   |nil=>obtain⟨v,h2,h3,h4⟩:=a;exact⟨v,h2,λl hl=>(nomatch hl),λF2 H2 s2 _=>h4 F2 H2 s2 λl hl=>(nomatch hl)⟩
  |own l ds=>trivial
theorem rZ{i:Nat}(p:D->Bool)(h:ds[i]? =some d):(ds.take<|i+1).filter p=(ds.take i).filter p++(if p d then[d] else[]):=by rw[eP,h,rC];cases hp:p d<;>simp[hp]
theorem kJ{elt:Expr}{ifs:List Expr}{scope:Scope}{N M:List Str}{cap:List (Option Nat)}{sc:Scope}{Tb:D->List Slot}(p:D->Bool)(f:D->D)
  (hi:PId X (unO sd) PT0 tg iter ds) (hl:ds.length<=10000)
  (hsc:X.env.scope=sc) (hcn:oY scope sc=true) (hM:X.N=M) (hcap:mE N M scope sc cap=true) (hk:scope.kind=.function)
  (hg:∀cl C fp s H d,d∈ds->PGd (cxB X N scope cl C fp s H) (pI cap sd) tg d (Tb d))
  (hle:∀d,d∈ds->Le (Tb d) (pI cap sd))
  (ht:∀cl C fp s H d,d∈ds->(ifs=[]/\p d=true)\/∃c,ifs=[c]/\PTd (cxB X N scope cl C fp s H) (Tb d) c (p d))
  (he:∀cl C fp s H d,d∈ds->p d=true->PEd (cxB X N scope cl C fp s H) (Tb d) elt (.val<|f d))
  (hc:X.calm=true:=by rfl) (hs:∀x,Ay iter X.env x=pure x:=by intro _;rfl):
  PEd X sd (.ListComp elt [⟨tg,iter,ifs,0⟩] scope pos) (.own<|(ds.filter p).map f):=.mk λσ F H S=>by
 refine aGW S trivial ?_;have S0:StF X.K X.B₀ F F σ (unO sd):=⟨S.base,Same.refl _,S.smp.sub S.sub,yF S.slots,by rw[iY];exact cI⟩;intro pins s I
 have nm:∀y∈scope.names,(y.2=NameKind.free->sc.names.lookup y.1=some NameKind.cell)/\(y.2=NameKind.local->scope.names.lookup y.1=some NameKind.local):=λy hy=>by have q:=iL.mp hcn y hy;simp only[bO,xC,sJ,beq_eq_false_iff_ne,ne_eq,beq_iff_eq] at q;exact⟨λe=>q.1.1.resolve_left λz=>z e,λe=>q.2.resolve_left λz=>z e⟩
 have fre:∀y∈scope.names,y.2=.free->∃c,X.env.cells.lookup y.1=some c:=λy hy e=>I.ok.has y.1 (.inl<|by show X.env.scope.names.lookup y.1=_;rw[hsc];exact(nm y hy).1 e)
 rw[eval_ListComp];refine wpAny_comprehension_free (use:=none) rfl hs (aCe fre) hk (λy hy=>(nm y hy).2) ?_;refine thn (hi σ F F S0 pins s I) λv s1 h1=>thn h1 λitv s2 h2=> ?_
 obtain⟨it,fp,tn,J,H2,e,I2,T,st2,f2,F1,S1,s1',itd⟩:=h2;subst e
 have S1b:StF X.K H2 H2 H2 (xK cap σ) (pI cap sd):=⟨Same.refl _,Same.refl _,S1.smp,by
  have q:=aEh (sd:=unO sd) (H':=H2) S1.slots S1.sub cap;rw[aGV] at q
  exact q,by rw[uQ];exact cI⟩
 refine aFX (N:=N) (cap:=cap) (g:=λv σ2 H3 Q=>∀cl C,wG (cxB X N scope cl C fp s2 H2) tg v σ2 H3 Q) (tt:=λσ2 H3 Q=>∀cl C,aOh (cxB X N scope cl C fp s2 H2) ifs σ2 H3 Q) (te:=λσ2 H3 Q=>∀cl C,wE (cxB X N scope cl C fp s2 H2) elt σ2 H3 Q)
  hc hsc hcn (by rw[hM];exact hcap) hk I2 T st2 f2 (λcl C pi s3 σ3 H3 v u Q I3 ru q=>q cl C pi s3 u I3 ru) (λcl C pi s3 σ3 H3 Q I3 q=>q cl C pi s3 I3) (λcl C pi s3 σ3 H3 Q I3 q=>q cl C pi s3 I3)
  (λi m ys σb H3=>m=ds.length-i/\i<=ds.length/\∃Fb,StF X.K H2 Fb H3 σb (pI cap sd)/\RepL X.K Fb (((ds.take i).filter p).map f) ys) ds.length
  ⟨by simp,cQ _,H2,S1b,by simpa using RepL.nil⟩ _ ?_
 rintro i m ys σb H3 ⟨rfl,hil,Fb,Sb,rl⟩;have sF1:Same F1 Fb:=λb o g=>Sb.base _ _<|S1.sub _ _ g
 obtain⟨g1,g2,g3⟩:=itd Fb H3 sF1 Sb.sub Sb.smp trivial i
 by_cases hlt:i<ds.length
 ·have hd:ds[i]? =some ds[i]:=by simp[hlt]
  have hm:ds[i]∈ds:=iM hlt
  have ylen:ys.length<=i:=by rw[rl.len,aC];exact cD (jV _ _) (by simp;omega)
  refine .inr ⟨g1 hlt,eV<|by omega,λys' σ' H'=>∃Fb',StF X.K H2 Fb' H' σ' (pI cap sd)/\RepL X.K Fb' (((ds.take<|i+1).filter p).map f) ys',λys' σ' H' ⟨Fb',Sb',rl'⟩=>⟨ds.length-(i+1),by omega,rfl,hlt,Fb',Sb',rl'⟩,λx H4 y cl C=> ?_⟩;obtain⟨F4,s4,rp,up⟩:=g3 x H4 ds[i] hd y;refine(hg cl C fp s2 H2 _ hm σb F4 H4 x (up _ _ _ Sb) rp).imp λσ5 H5 ⟨F5,S5,s5⟩ cl2 C2=> ?_
  have rl5:=rl.mono<|s4.trans s5
  have fin:∀ (b:Bool) (H6:Hp) (F6:Hp),b=p ds[i]->StF X.K H2 F6 H6 σ5 (Tb ds[i])->Same F5 F6->if b=true then(∀cl C,wE (cxB X N scope cl C fp s2 H2) elt σ5 H6 λv H5=>∃Fb',StF X.K H2 Fb' H5 σ5 (pI cap sd)/\RepL X.K Fb' (((ds.take<|i+1).filter p).map f) (ys++[v])) else ∃Fb',StF X.K H2 Fb' H6 σ5 (pI cap sd)/\RepL X.K Fb' (((ds.take<|i+1).filter p).map f) ys:=λb H6 F6 eb S6 s6=>by
   rw[rZ p hd,<-eb];cases b with
   |false=>exact aIH ⟨F6,S6.le<|hle _ hm,by simpa using rl5.mono s6⟩
   |true=>
    refine aIC λcl3 C3=>(he cl3 C3 fp s2 H2 _ hm eb.symm σ5 F6 H6 S6).imp λv H7 ⟨F7,S7,s7,q7⟩=>⟨F7,S7.le<|hle _ hm, ?_⟩
    simp only[if_true,bK,aW,eF];exact((rl5.mono s6).mono s7).app<|.one q7
  rcases ht cl2 C2 fp s2 H2 _ hm with⟨e1,e2⟩|⟨c,e1,q⟩
  ·subst e1;exact aGH (fin true H5 F5 e2.symm S5<|Same.refl _)
  ·subst e1;exact aGI<|(q σ5 F5 H5 S5).imp λb H6 ⟨eb,F6,S6,s6⟩=>fin b H6 F6 eb S6 s6
 ·have e:i=ds.length:=by omega
  subst e;refine .inl ⟨g2<|aJ _,λD C s' hD hC hDC h0 hL hcc hpp hst ⟨m',ns'⟩ J'=>⟨m',ns',λh' sb=> ?_⟩⟩;have J2:Inv X pins σ (upd H3 D<|.lst ys) {s' with heap:=h',toks:=s'.toks}:=J'.turned (it:=C) (λb o hb g=>sb.extBut b o hb g) (by rw[aR<|Ne.symm hDC];exact hC) hL (.inr h0) hcc hpp;refine⟨.ref D,_,J2,rfl,Fb,λb o g=>Sb.base _ _ (S1.sub _ _<|s1' _ _ g),λb o g=> ?_,λb o g=> ?_,D,ys,rfl,Sb.sub.free hD,bJ, ?_,by simp[bU]⟩
  ·have g3:=Sb.sub _ _ g;rw[aR<|cC g3 hD];exact g3
  ·by_cases hb:b=D
   ·subst hb;rw[bJ] at g;cases g;trivial
   ·rw[aR hb] at g;exact Sb.smp _ _ g
  ·simpa using rl
noncomputable def isT:D->Bool
 |.tup _=>true
 |_=>false
noncomputable def isL:D->Bool
 |.lst _=>true
 |.scr _=>true
 |_=>false
theorem PEd.cast{r':R}(h:PEd X sd e r)(q:r=r'):PEd X sd e r':=q▸h
theorem qA{k:Bool}{x o:List BJ}(h:PTd X sd c k)(hk:k=false)(h2:PSd X sd o E):PSd1 X sd (.If c x o pos) E:=fD h (λe=>by rw[hk] at e;cases e) λ_=>h2
theorem pX{k:Bool}{x o:List BJ}(h:PTd X sd c k)(hk:k=true)(h2:PSd X sd x E):PSd1 X sd (.If c x o pos) E:=fD h (λ_=>h2) λe=>by rw[hk] at e;cases e
theorem aAq{i:Int}(ha:PEd X sd a (.bor ds))(hb:PEd X sd b (.val<|.int i))(h0:0<=i)(hd:ds[i.toNat]? =some d)(hs:oU b):PEd X sd (.Subscript a b pos) (.val d):=by
 have e:i=(i.toNat:Int):=by omega
 rw[e] at hb;exact mZ ha hb hd hs
theorem zW{i:Int}(ha:PEd X sd a (.val<|.tup ds))(hb:PEd X sd b (.val<|.int i))(h0:0<=i)(hd:ds[i.toNat]? =some d)(hs:oU b):PEd X sd (.Subscript a b pos) (.val d):=by
 have e:i=(i.toNat:Int):=by omega
 rw[e] at hb;exact vJ ha hb hd hs
theorem vL{i:Int}(h:i.natAbs<2^250):Builtin.Int.intBits i<=2^20:=by
 unfold Builtin.Int.intBits
 split
 ·exact cQ _
 ·rename_i hz
  have hne:i.natAbs≠0:=by
   intro z;apply hz;have:i=0:=by omega
   subst this;rfl
  have:=(Nat.log2_lt hne).mpr h;have e:(250:Nat)+1<=2^20:=by decide
  omega
theorem mK{i j:Int}(h1:i.natAbs<2^250)(h2:j.natAbs<2^250):IntMulOk i j:=.of_bits (vL h1)<|vL h2
noncomputable def most:Int:=1000*10^64
noncomputable def bW:List (Int×Int):=[(2,2),(1,1),(1,2),(2,1),(1,3),(3,1),(2,3),(3,2),(1,4),(4,1),(1,5),(5,1),(1,6),(6,1)]
noncomputable def cJ(p:Int×Int):D:=.tup [.int p.1,.int p.2]
def aNL:List D->R->Prop:=λds r=>∃ns:List Int,ds=[.scr ns]/\ns.length<=63/\r=.val (.bl true)
theorem aAR{ns:List Int}{k:Nat}(h:(ns.map D.int)[k]? =some d):k<ns.length/\d=.int (ns.getD k 0):=by
 rw[aZ] at h;cases e:ns[k]? with
 |none=>rw[e] at h;cases h
 |some z=>rw[e] at h;refine⟨(aD.mp e).1, ?_⟩;rw[<-bM.inj h,cK,e];rfl
theorem getD_mem{α:Type}{l:List α}{i:Nat}{d:α}(h:i<l.length):l.getD i d∈l:=by
 have e:l.getD i d=l[i]:=by simp[cK,h]
 rw[e];exact iM h
theorem aGM(h:aNQ H):Smp H:=λb o e=>by
 rcases h b with z|⟨o',xs,z⟩
 ·rw[z] at e;cases e
 ·rw[z] at e;cases e;trivial
theorem walkD{l:PySem.W.OpenLaw}{k:Nat}{x:Str}{q:AE}{loose:List Str}{XP:(Str->Option BD)->BH->Prop}{YP:AL->BH->Prop}{d:DefRec}{K:Params->aA}(hn:l.most=some 63)(hdf:d.params.defaults=[])
  (hr:Room k callerA) (hY:∀ (w:AL) (h:BH),YP w h->(K w.params).In h)
  (F:∀ (w:AL) (mg:Str→Option BD) (fa:BF) (h:BH),(K w.params).In h→h.Ns AO mg→mg d.name=some (.ref fa)→
   ∃fd:AN,(∀ (s:BE) (u:BD),BindsTo s fd ⟨[u],[]⟩ [(x,u)])/\∀base:BH,(K w.params).In base->base.Ns AO mg->FnOk l.prog w (K w.params) mg base CX0 k fa fd [x] (spC (K w.params) 1 aNL)):
  PySem.W.WalkO q loose XP YP l.row.toRowW d [] (λf vs=>PySem.call f vs):=
 L2.walk_of (n:=63) (k:=k) (x:=x) (CX:=λ_=>CX0) (sp:=λw=>spC (K w.params) 1 aNL) hn (by decide) hdf hr hY F
  (λw H a ns hl ho hS=>⟨rfl,aGM ho,[.scr ns],.val<|.bl true,.one (by simp only[Rep];exact⟨a,rfl,hS⟩),⟨ns,rfl,hl,rfl⟩,λv H' ⟨F,_,_,_,res⟩=>by simpa only[ResOk,Rep] using res⟩) λ_ _ _ _ _ z=>z
variable {pins:List (BF×BI)}{s:BE}{sts:List BJ}
noncomputable abbrev reB(X:Cx)(B:Hp)(h:∀b o,X.H₀ b=some o->mY o->B b=some o):Cx:={X with B₀:=B,hB:=h}
theorem aJR{B:Hp}{hb:∀b o,X.H₀ b=some o->mY o->B b=some o}(I:Inv X pins σ H s):Inv (reB X B hb) pins σ H s:=
 ⟨⟨I.ok.mod,I.ok.kind,I.ok.glob,I.ok.blt,I.ok.above,I.ok.inj,I.ok.has,I.ok.cab,I.ok.hd,I.ok.frames,I.ok.stk,I.ok.exf,I.ok.bs,I.ok.bsz,I.ok.noex,I.ok.exfs,I.ok.funs,I.ok.frf⟩,I.os,I.bare,I.base,I.loc,I.cell,I.free,I.freeC,I.pin,I.hok,I.len⟩
theorem tO{B:Hp}{hb:∀b o,X.H₀ b=some o->mY o->B b=some o}(I:Inv (reB X B hb) pins σ H s):Inv X pins σ H s:=
 ⟨⟨I.ok.mod,I.ok.kind,I.ok.glob,I.ok.blt,I.ok.above,I.ok.inj,I.ok.has,I.ok.cab,I.ok.hd,I.ok.frames,I.ok.stk,I.ok.exf,I.ok.bs,I.ok.bsz,I.ok.noex,I.ok.exfs,I.ok.funs,I.ok.frf⟩,I.os,I.bare,I.base,I.loc,I.cell,I.free,I.freeC,I.pin,I.hok,I.len⟩
theorem zQ{B:Hp}{hb:∀b o,X.H₀ b=some o->mY o->B b=some o}{D:sN}(h:wSs (reB X B hb) sts D σ H):wSs X sts D σ H:=λpins s I=>thn (h pins s<|aJR I) λf s' q=>by
 cases f with
 |next=>obtain⟨σ',H',I',q⟩:=q;exact⟨σ',H',tO I',q⟩
 |brk=>obtain⟨σ',H',I',q⟩:=q;exact⟨σ',H',tO I',q⟩
 |cont=>obtain⟨σ',H',I',q⟩:=q;exact⟨σ',H',tO I',q⟩
 |ret u=>obtain⟨v,σ',H',I',r,q⟩:=q;exact⟨v,σ',H',tO I',r,q⟩
structure Lent(K:aA) where
 α:Type
 ad:α->BF
 own:α->List BF
 G:α->V->Hp->Hp->Prop
 hv:∀ {a:α}{v:V}{F H:Hp},G a v F H->v=.ref (ad a)
noncomputable def Lent.sl{K:aA}(Z:Lent K)(a:Z.α):Slot:=.ox (Z.own a)<|Z.G a
variable (Z:Lent K)
noncomputable def spL(n:Nat)(C:Z.α->List D->(Z.α->Prop)->Prop):Sp:=λvs H Q _=>vs.length=n/\∃ (v:V) (us:List V) (F:Hp) (a:Z.α) (ds:List D) (post:Z.α->Prop),vs=v::us/\Same F H/\(∀b,b∉Z.own a->H b=F b)/\Smp H/\dM K F H (Z.sl a) (some v)/\(Z.own a).Nodup/\RepL K F ds us/\C a ds post/\(∀a',post a'->Z.ad a'=Z.ad a)/\
 ∀H',(∃F' a',post a'/\Same F F'/\Same F' H'/\Smp H'/\dM K F' H' (Z.sl a') (some v)/\(Z.own a').Nodup)->Q .non H'
noncomputable def spM(n:Nat)(C:Z.α->List D->(Z.α->Prop)->Prop):Sp:=λvs H Q _=>vs.length=n/\Smp H/\∃ (v:V) (us:List V) (F:Hp) (a:Z.α) (ds:List D) (post:Z.α->Prop),vs=v::us/\Same F H/\dM K F H (Z.sl a) (some v)/\(Z.own a).Nodup/\RepL K F ds us/\C a ds post/\(∀a',post a'->Z.ad a'=Z.ad a)/\
 ∀F' H' a',post a'->Same F F'->Same F' H'->Smp H'->dM K F' H' (Z.sl a') (some v)->(Z.own a').Nodup->(∀b o,b∉Z.own a->H b=some o->H' b=some o)->(∀b o,b∉Z.own a->H b=some o->F b=none->F' b=none/\b∉Z.own a')->Q .non H'
open Classical in
noncomputable def jZ(as:List BF)(F H:Hp):Hp:=λb=>if b∈as then H b else F b
open Classical in
noncomputable def fJ(as:List BF)(F H:Hp):Hp:=λb=>if b∈as then F b else qR F H b
theorem fE{as:List BF}:Same F (fJ as F H):=λb o e=>by
 unfold fJ
 by_cases h:b∈as
 ·rw[if_pos h];exact e
 ·rw[if_neg h];exact qU _ _ e
theorem fS{as:List BF}{b:BF}(hb:b∉as)(h:F b=none):fJ as F H b=H b:=by unfold fJ;rw[if_neg hb];exact qD h
theorem kO{as:List BF}{b:BF}(hb:b∈as):jZ as F H b=H b:=by unfold jZ;rw[if_pos hb]
theorem gE{as:List BF}{b:BF}(hb:b∉as):jZ as F H b=F b:=by unfold jZ;rw[if_neg hb]
theorem FnOk.framedL{P:AE}{w:AL}{Z:Lent K}{mg:Str->Option BD}{base:BH}{k n:Nat}{f:BF}{fd:AN}{ps:List Str}{C:Z.α->List D->(Z.α->Prop)->Prop}(G:FnOk P w K mg base CX0 k f fd ps (spL Z n C)):FnOk P w K mg base CX0 k f fd ps (spM Z n C):=by
 have res:∀ {F H:Hp}{a:Z.α}{v:V},Same F H->dM K F H (Z.sl a) (some v)->Same F (jZ (Z.own a) F H)/\Same (jZ (Z.own a) F H) H/\dM K F (jZ (Z.own a) F H) (Z.sl a) (some v):=λ{F H a v} sF so=>by
  obtain⟨v',ev,ow,gg⟩:=so;refine⟨λb o e=> ?_,λb o e=> ?_,v',ev,λb hb=>⟨(ow b hb).1, ?_⟩,λF' H' s k=>gg F' H' s λb hb ob e=>k b hb ob<|by rw[kO hb];exact e⟩
  ·by_cases h:b∈Z.own a
   ·rw[(ow b h).1] at e;cases e
   ·rw[gE h];exact e
  ·by_cases h:b∈Z.own a
   ·rw[kO h] at e;exact e
   ·rw[gE h] at e;exact sF b o e
  ·rw[kO hb];exact(ow b hb).2
 refine⟨λvs H Q E h=> ?_,λA outer s H args us vs Q E hr e0 hb rv h=> ?_⟩
 ·obtain⟨hl,sm,v,us,F,a,ds,post,e,sF,so,nd,rl,c,hp,_⟩:=h;obtain⟨q1,q2,q3⟩:=res sF so;exact G.len vs (jZ (Z.own a) F H) (λ_ _=>True) E ⟨hl,v,us,F,a,ds,post,e,q1,λb hb=>gE hb,sm.sub q2,q3,nd,rl,c,hp,λ_ _=>trivial⟩
 ·obtain⟨hl,sm,v,us',F,a,ds,post,ev,sF,so,nd,rl,c,hp,q⟩:=h;obtain⟨q1,sU,q3⟩:=res sF so;obtain⟨_,_,ow,_⟩:=id so;have nU:∀b,b∉Z.own a->F b=none->jZ (Z.own a) F H b=none:=λb hbl n=>by rw[gE hbl];exact n
  have e1:Env0 P w K mg base A outer s (jZ (Z.own a) F H):=⟨e0.frames,e0.mod,λb o e=>⟨(e0.bs b o e).1,sU.free (e0.bs b o e).2⟩,e0.bsz,e0.funs,λb hb=>sU.free<|e0.frf b hb,λb o e=>(e0.hok b o<|sU b o e).smp (sm b o<|sU b o e),e0.bare⟩;refine Aj (G.run A outer s (jZ (Z.own a) F H) args us vs (λv3 F3=>v3=.non/\∃F' a',post a'/\Same F F'/\Same F' F3/\Smp F3/\dM K F' F3 (Z.sl a') (some v)/\(Z.own a').Nodup) E hr e1 hb rv ⟨hl,v,us',F,a,ds,post,ev,q1,λb hb=>gE hb,sm.sub sU,q3,nd,rl,c,hp,λH' z=>⟨rfl,z⟩⟩) λrr s' hrr=> ?_
  cases rr with
  |error e=>exact hrr
  |ok flw=>
   cases flw with
   |ret u=>
    obtain⟨v3,F3,ho,ha,un,hk,ru,e3,F2,a',pa,s1,s2,sm3,so3,nd3⟩:=hrr;subst e3
    have keepF:∀b o,b∉Z.own a->H b=some o->F b=none->F3 b=none:=λb o hbl e n=>by
     have lt:=e0.hok.lt e;cases g:s.heap.get? b with
     |none=>
      exfalso;have ob:=e0.hok b o e;have z:=sm b o e;cases o with
      |lst xs=>obtain⟨_,_,_,_,g'⟩:=ob;rw[g] at g';cases g'
      |tup xs=>obtain⟨_,_,_,oo,g',_⟩:=ob;rw[g] at g';cases g'
      |dK kvs=>obtain⟨_,_,_,_,oo,_,_,g',_⟩:=ob;rw[g] at g';cases g'
      |frz o2 u2=>obtain⟨g',_⟩:=ob;rw[g] at g';cases g'
      |ext φ=>obtain⟨_,⟨oo,g'⟩,_⟩:=ob;rw[g] at g';cases g'
      |_=>exact z
     |some ob=>exact un.free b ob g (nU b hbl n)<|by simp
    have keepO:∀b o,b∉Z.own a->H b=some o->F b=none->∀ob,s.heap.get? b=some ob->s'.heap.get? b=some ob:=λb o hbl e n ob g=>un.keep b ob g (nU b hbl n) (λhb=>by have:=e0.frf b hb;rw[e] at this;cases this)<|by simp
    have sH:∀b o,b∉Z.own a->H b=some o->fJ (Z.own a) F3 H b=some o:=λb o hbl e=>by
     cases g:F b with
     |none=>rw[fS hbl<|keepF b o hbl e g];exact e
     |some o'=>have:=sF b o' g;rw[e] at this;cases this;exact fE _ _ (s2 _ _<|s1 _ _ g)
    have nl:∀ {b:BF}{o:HO},H b=some o->¬ Wr b o->b∉Z.own a:=λe no z=>by obtain⟨_,ob,g,wr⟩:=ow _ z;rw[e] at g;cases g;exact no wr
    have nn:∀ {b:BF},H b=none->b∉Z.own a:=λe z=>by obtain⟨_,ob,g,_⟩:=ow _ z;rw[e] at g;cases g
    have smM:Smp (fJ (Z.own a) F3 H):=λb o e=>by
     by_cases hbl:b∈Z.own a
     ·unfold fJ at e;rw[if_pos hbl] at e;exact sm3 _ o e
     ·cases g:F3 b with
      |some o'=>have:=fE (as:=Z.own a) (H:=H) b o' g;rw[e] at this;cases this;exact sm3 b o g
      |none=>rw[fS hbl g] at e;exact sm b o e
    have soM:dM K F2 (fJ (Z.own a) F3 H) (Z.sl a') (some v):=by obtain⟨v',ev,ow3,gg⟩:=so3;refine⟨v',ev,λb hb=>⟨(ow3 b hb).1, ?_⟩,λF' H' s k=>gg F' H' s λb hb ob e=>k b hb ob<|fE _ _ e⟩;obtain⟨_,ob,g,wr⟩:=ow3 b hb;exact⟨ob,fE _ _ g,wr⟩
    refine⟨.non,fJ (Z.own a) F3 H,ho,ha,⟨λb o g n hb hx=>un.keep b o g (sU.free n) hb hx,λb o g n hb hx=>un.slot b o g (sU.free n) hb hx,λb o g n hx=> ?_,un.there,λb xs e=>sH _ _ (nl e λz=>z) e,λb o u e=>sH _ _ (nl e λz=>z) e,λb ps e=>⟨#[],by rw[sH _ _ (nl e λz=>z) e];simp⟩⟩,λb o e=> ?_,ru, ?_⟩
    ·rw[fS (nn n)<|un.free b o g (sU.free n) hx];exact n
    ·have z:=smM b o e
     by_cases hbl:b∈Z.own a
     ·have e':F3 b=some o:=by unfold fJ at e;rw[if_pos hbl] at e;exact e
      exact(hk b o e').smp z
     ·cases g:F3 b with
      |some o'=>have:=fE (as:=Z.own a) (H:=H) b o' g;rw[e] at this;cases this;exact(hk b o g).smp z
      |none=>
       rw[fS hbl g] at e
       have n:F b=none:=by
        cases g2:F b with
        |none=>rfl
        |some o2=>rw[s2 _ _<|s1 _ _ g2] at g;cases g
       have st:=(e0.hok b o e).smp (F:=λ_=>none) z
       have:ObjOk P w (fun _=>none) s'.heap b o:=st.stay (fun b2 u hb2 gg=>by
        rcases hb2 with rfl|hb2
        ·exact keepO _ o hbl e n u gg
        ·cases hb2) (λb2 hb2=>nomatch hb2) λb2 xs hb2=>nomatch hb2
       exact this.smp z
    ·refine q F2 (fJ (Z.own a) F3 H) a' pa s1 (s2.trans fE) smM soM nd3 sH λb o hbl e n=> ?_
     have n3:=keepF b o hbl e n;refine⟨s2.free n3,λhb=> ?_⟩;obtain⟨_,_,ow3,_⟩:=so3;obtain⟨_,ob,g,_⟩:=ow3 b hb;rw[n3] at g;cases g
   |_=>exact hrr
theorem gU:∀ {sd:List Slot}{i:Nat}{z:Slot},(bU sd).Nodup->sd[i]? =some z->(fC z).Nodup
 |[],_,_,_,e=>by simp at e
 |y::zs,0,z,h,e=>by
  have:y=z:=by simpa using e
  subst this;exact(bE.mp (show(fC y++bU zs).Nodup from h)).1
 |y::zs,i+1,z,h,e=>gU (sd:=zs) (i:=i) (bE.mp (show(fC y++bU zs).Nodup from h)).2.1 (by simpa using e)
structure pS(P:AE)(w:AL)(K:aA)(Z:Lent K)(mg:Str->Option BD)(base:BH)(x:Str)(k n:Nat)(C:Z.α->List D->(Z.α->Prop)->Prop):Prop where
 ex:∃ (f:BF) (fd:AN) (ps:List Str),mg x=some (.ref f)/\cG K (.ref f)=true/\Binds K fd ps []/\FnOk P w K mg base CX0 k f fd ps (spL Z n C)
noncomputable def jQ{K:aA}(Z:Lent K)(n:Nat)(a:Z.α)(ds:List D):List Slot:=Z.sl a::(ds.map Slot.val++eC (n-(ds.length+1)) .un)
theorem aKw{P:AE}{w:AL}{Z:Lent K}{mg:Str->Option BD}{base:BH}{x qual:Str}{f:BF}{fd:AN}{N ps:List Str}{k:Nat}{C:Z.α->List D->(Z.α->Prop)->Prop}(F:Fun K x qual st f fd)(S:fK N ps (aK st))
  (hm:mg x=some (.ref f)) (hb:∀ (kV doc pm:BD) (an:Option BF) (cdv ct:BD) (us:List BD),us.length=ps.length->bindArgs (bY x qual (dW st) (cM st) (aK st) .none kV doc pm an cdv ct) ⟨us,[]⟩=pure (ps.zip us))
  (body:∀ (cdv:BD) (A:BG) (outer:List Env) (s:BE) (H:Hp) (E:XK) (B:Hp) (hB:∀b o,H b=some o→mY o→B b=some o),Room k (A.deeper (Ag qual (aK st) s.heap.objs.size f cdv))→∀a ds post,ds.length+1=ps.length→C a ds post→
   PSd (reB (jB CX0 P w K mg base N qual (aK st) f cdv A outer s H E).nox B hB) (jQ Z N.length a ds) (cM st) {nx:=λsd'=>∃a',post a'/\sd'[0]? =some (Z.sl a'),rt:=λ_=>False})
  (hw:∀ (a:Z.α) (v:V) (F H:Hp) (b:BF) (o:HO),Z.G a v F H->b∈Z.own a->H b=some o->¬ mY o):pS P w K Z mg base x (k+1) ps.length C:=by
 refine⟨f,fd,ps,hm,F.kp,F.binds hb,F.ok S (λvs H Q E h=>h.1) λcdv A outer s H vs Q E hr h=> ?_⟩;obtain⟨hl,v,us,F0,a,ds,post,rfl,sF,hH,sm,so,nd,rl,c,hp,q⟩:=h;have hds:ds.length+1=ps.length:=by rw[<-rl.len];exact hl
 have hB:∀b o,H b=some o->mY o->F0 b=some o:=λb o e no=>by
  by_cases hbl:b∈Z.own a
  ·obtain⟨_,_,_,gg⟩:=so;exact absurd no<|hw a _ F0 H b o (gg F0 H (Same.refl _) λ_ _ _ e=>e) hbl e
  ·rw[<-hH b hbl];exact e
 refine⟨_,pss_w,zQ (B:=F0) (hb:=hB) ?_⟩;have hlen:N.length-(us.length+1)=N.length-(ds.length+1):=by rw[rl.len]
 have S0:StF K F0 F0 H (L2.start N (v::us)) (jQ Z N.length a ds):=by
  refine⟨Same.refl _,sF,sm, ?_, ?_⟩
  ·unfold L2.start jQ;show SlotsOk K F0 _ (_::_) (some v::(us.map some++eC (N.length-(us.length+1)) none));rw[hlen];exact⟨_,_,rfl,so,gT (m:=0) rl⟩
  ·unfold jQ;rw[lB,hX,bG];exact nd
 refine(body cdv A outer s _ E F0 hB hr a ds post hds c (L2.start N (v::us)) F0 _ S0).imp ?_ ?_ (λ_ _ ⟨_,_,_,_,z⟩=>z) λ_ _ ⟨_,_,_,_,z⟩=>z
 ·rintro σ' H' ⟨sd',F',S',s',a',pa,hs⟩;obtain⟨o,h1,so'⟩:=S'.slots.get hs;obtain⟨v',rfl,ow',gg⟩:=so';have e1:=Z.hv<|gg F' H' (Same.refl _) λ_ _ _ e=>e;obtain⟨v0,ev,_,g0⟩:=so;cases ev;have e0:=Z.hv<|g0 F0 H (Same.refl _) λ_ _ _ e=>e;have evv:v'=v:=by rw[e1,e0,hp a' pa]
  subst evv;refine q H' ⟨F',a',pa,S'.base,S'.sub,S'.smp,⟨v',rfl,ow',gg⟩, ?_⟩;have nd':=S'.nd;exact gU nd' hs
 ·rintro v' H' ⟨r',ro,e⟩;exact e.elim
mutual
noncomputable def deq:D->D->Bool
 |.non,.non=>true
 |.bl a,.bl b=>a==b
 |.bl a,.int b=>(if a then 1 else 0)==b
 |.int a,.bl b=>a==(if b then 1 else 0)
 |.int a,.int b=>a==b
 |.str a,.str b=>a==b
 |.tup a,.tup b=>lZ a b
 |.lst a,.lst b=>lZ a b
 |_,_=>false
noncomputable def lZ:List D->List D->Bool
 |[],[]=>true
 |x::xs,y::ys=>deq x y&&lZ xs ys
 |_,_=>false
end
mutual
noncomputable def pl:D->Bool
 |.dic=>false
 |.dki _ _=>false
 |.any _=>false
 |.scr _=>false
 |.tup ds=>plL ds
 |.lst ds=>plL ds
 |_=>true
noncomputable def plL:List D->Bool
 |[]=>true
 |d::ds=>pl d&&plL ds
end
mutual
noncomputable def dep:D->Nat
 |.tup ds=>lA ds+1
 |.lst ds=>lA ds+1
 |_=>0
noncomputable def lA:List D->Nat
 |[]=>0
 |d::ds=>max (dep d)<|lA ds
end
theorem qW:∀ {ds:List D}{i:Nat}{d:D},plL ds=true->ds[i]? =some d->pl d=true
 |[],i,d,_,e=>by simp at e
 |d'::ds,i,d,h,e=>by
  simp only[plL,bO] at h;cases i with
  |zero=>simp at e;subst e;exact h.1
  |succ i=>exact qW h.2 (by simpa using e)
theorem nL:∀ {ds:List D}{i:Nat}{d:D},ds[i]? =some d->dep d<=lA ds
 |[],i,d,e=>by simp at e
 |d'::ds,i,d,e=>by
  simp only[lA];cases i with
  |zero=>simp at e;subst e;exact Nat.le_max_left _ _
  |succ i=>exact cD (nL (i:=i)<|by simpa using e)<|Nat.le_max_right _ _
theorem deqL_iff:∀ {xs ys:List D},lZ xs ys=true↔xs.length=ys.length/\∀ (j:Nat) (x y:D),xs[j]? =some x->ys[j]? =some y->deq x y=true
 |[],[]=>by simp[lZ]
 |[],y::ys=>by simp[lZ]
 |x::xs,[]=>by simp[lZ]
 |x::xs,y::ys=>by
  simp only[lZ,bO,bD,deqL_iff (xs:=xs) (ys:=ys)]
  constructor
  ·rintro⟨h1,h2,h3⟩;refine⟨by omega,λj a b ea eb=> ?_⟩;cases j with
   |zero=>simp at ea eb;subst ea eb;exact h1
   |succ j=>exact h3 j a b (by simpa using ea) (by simpa using eb)
  ·rintro⟨h1,h2⟩;exact⟨h2 0 x y rfl rfl,by omega,λj a b ea eb=>h2 (j+1) a b (by simpa using ea)<|by simpa using eb⟩
mutual
theorem wL{K:aA}{H:Hp}:∀ {d1 d2:D}{v:V},pl d1=true->Rep K H d1 v->Rep K H d2 v->pl d2=true->deq d1 d2=true
 |.non,d2,v,_,r1,r2,_=>by simp only[Rep] at r1;subst r1;cases d2<;>simp_all[Rep,deq]
 |.bl b,d2,v,_,r1,r2,_=>by simp only[Rep] at r1;subst r1;cases d2<;>simp_all[Rep,deq]
 |.int b,d2,v,_,r1,r2,_=>by simp only[Rep] at r1;subst r1;cases d2<;>simp_all[Rep,deq]
 |.str b,d2,v,_,r1,r2,_=>by simp only[Rep] at r1;subst r1;cases d2<;>simp_all[Rep,deq]
 |.dic,_,_,h,_,_,_=>by simp[pl] at h
 |.dki _ _,_,_,h,_,_,_=>by simp[pl] at h
 |.any _,_,_,h,_,_,_=>by simp[pl] at h
 |.scr _,_,_,h,_,_,_=>by simp[pl] at h
 |.tup ds,d2,v,p1,r1,r2,p2=>by
  simp only[Rep] at r1;obtain⟨a,xs,rfl,ha,rl⟩:=r1;cases d2 with
  |tup es=>simp only[Rep] at r2;obtain⟨a',xs',e,ha',rl'⟩:=r2;cases e;rw[ha] at ha';cases ha';simp only[deq];exact rL (by simpa[pl] using p1) rl rl' (by simpa[pl] using p2)
  |lst es=>simp only[Rep] at r2;obtain⟨a',xs',e,ha',rl'⟩:=r2;cases e;rw[ha] at ha';cases ha'
  |dic=>simp[pl] at p2
  |dki=>simp[pl] at p2
  |any=>simp[pl] at p2
  |scr=>simp[pl] at p2
  |_=>simp[Rep] at r2
 |.lst ds,d2,v,p1,r1,r2,p2=>by
  simp only[Rep] at r1;obtain⟨a,xs,rfl,ha,rl⟩:=r1;cases d2 with
  |lst es=>simp only[Rep] at r2;obtain⟨a',xs',e,ha',rl'⟩:=r2;cases e;rw[ha] at ha';cases ha';simp only[deq];exact rL (by simpa[pl] using p1) rl rl' (by simpa[pl] using p2)
  |tup es=>simp only[Rep] at r2;obtain⟨a',xs',e,ha',rl'⟩:=r2;cases e;rw[ha] at ha';cases ha'
  |dic=>simp[pl] at p2
  |dki=>simp[pl] at p2
  |any=>simp[pl] at p2
  |scr=>simp[pl] at p2
  |_=>simp[Rep] at r2
theorem rL{K:aA}{H:Hp}:∀ {ds es:List D}{xs:List V},plL ds=true->RepL K H ds xs->RepL K H es xs->plL es=true->lZ ds es=true
 |[],es,xs,_,r1,r2,_=>by
  simp only[RepL] at r1;subst r1;cases es with
  |nil=>rfl
  |cons e es=>obtain⟨y,ys,z,_⟩:=r2.uncons;cases z
 |d::ds,es,xs,p1,r1,r2,p2=>by
  obtain⟨y,ys,rfl,a,rl⟩:=r1.uncons;cases es with
  |nil=>simp only[RepL] at r2;cases r2
  |cons e es=>obtain⟨y',ys',z,a',rl'⟩:=r2.uncons;cases z;simp only[plL,bO] at p1 p2;simp only[lZ,bO];exact⟨wL p1.1 a a' p2.1,rL p1.2 rl rl' p2.2⟩
end
noncomputable def pU:D->Bool
 |.non=>true
 |.bl _=>true
 |.int _=>true
 |.str _=>true
 |_=>false
theorem tW(h:pU d=true)(r:Rep K H d v):nF v=true/\flt d=some v:=by cases d<;>simp_all[pU,Rep,nF,flt]
variable {P:AE}{w:AL}
theorem iJ(hok:HOk P w H s.heap){u:BD}(r:Rep K H (.tup ds) v)(ru:RelV v u):∃a xs its,u=.ref a/\v=.ref a/\RepL K H ds xs/\Vals xs its/\s.heap.IsTuple a its.toArray:=by simp only[Rep] at r;obtain⟨a,xs,rfl,ha,rl⟩:=r;cases ru;obtain⟨_,its,rv,p⟩:=(show ObjOk P w H s.heap a (.tup xs) from hok a _ ha);exact⟨a,xs,its,rfl,rfl,rl,rv,p.tup⟩
theorem lV(hok:HOk P w H s.heap){u:BD}(r:Rep K H (.lst ds) v)(ru:RelV v u):∃a xs its,u=.ref a/\v=.ref a/\RepL K H ds xs/\Vals xs its/\s.heap.IsList a its.toArray:=by simp only[Rep] at r;obtain⟨a,xs,rfl,ha,rl⟩:=r;cases ru;obtain⟨_,its,n,rv,p⟩:=(show ObjOk P w H s.heap a (.lst xs) from hok a _ ha);exact⟨a,xs,its,rfl,rfl,rl,rv,_,p,rfl,n,rfl⟩
noncomputable def dAt(ds es:List D)(j:Nat):Bool:=match ds[j]?,es[j]? with
 |some x,some y=>deq x y
 |_,_=>false
theorem wU(ds es:List D):((bR<|min ds.length es.length).all (dAt ds es)&&ds.length==es.length)=lZ ds es:=by
 rw[gQ,deqL_iff,bO,iL,beq_iff_eq]
 constructor
 ·rintro⟨h1,h2⟩;refine⟨h2,λj x y ex ey=> ?_⟩;have hj:j<ds.length:=(aD.mp ex).1;have:=h1 j (cU.mpr<|by omega);unfold dAt at this;rw[ex,ey] at this;exact this
 ·rintro⟨h1,h2⟩;refine⟨λj hj=> ?_,h1⟩;have hj':=cU.mp hj;have e1:ds[j]? =some (ds[j]'(by omega)):=by simp
  have e2:es[j]? =some (es[j]'(by omega)):=by simp
  unfold dAt;rw[e1,e2];exact h2 j _ _ e1 e2
theorem yK{es:List D}(h:ds.length=es.length):(bR ds.length).all (dAt ds es)=lZ ds es:=by have:=wU ds es;rw[h] at this ⊢;simpa using this
theorem aBD{es:List D}(h:ds.length≠es.length):lZ ds es=false:=by
 cases e:lZ ds es with
 |false=>rfl
 |true=>exact absurd (deqL_iff.mp e).1 h
mutual
theorem rN(hok:HOk P w H s.heap):∀ (d1:D) {d2:D}{v1 v2:V}{u1 u2:BD}{A:BG},pl d1=true->pl d2=true->Rep K H d1 v1->Rep K H d2 v2->RelV v1 u1->RelV v2 u2->A.units+dep d1<AS->SeqAt.EqAt A s u1 u2 (deq d1 d2)
 |.tup ds,d2,v1,v2,u1,u2,A,p1,p2,r1,r2,ru1,ru2,hu=>by
  have hu':A.units<AS:=by omega
  obtain⟨a,xs,its,rfl,rfl,rl,rv,ht⟩:=iJ hok r1 ru1;cases d2 with
  |non=>simp only[Rep] at r2;subst r2;cases ru2;exact SeqAt.EqAt.tuple_none ht hu'
  |bl b=>simp only[Rep] at r2;subst r2;cases ru2;exact SeqAt.EqAt.tuple_bool b ht hu'
  |int b=>simp only[Rep] at r2;subst r2;obtain⟨t,rfl⟩:=ru2;exact SeqAt.EqAt.tuple_int b t ht hu'
  |str b=>simp only[Rep] at r2;subst r2;obtain⟨t,rfl⟩:=ru2;exact SeqAt.EqAt.tuple_str b t ht hu'
  |dic=>simp[pl] at p2
  |dki=>simp[pl] at p2
  |any=>simp[pl] at p2
  |scr=>simp[pl] at p2
  |lst es=>obtain⟨b,ys,jts,rfl,rfl,rl2,rv2,hl2⟩:=lV hok r2 ru2;exact SeqAt.EqAt.tuple_list ht hl2 hu'
  |tup es=>
   obtain⟨b,ys,jts,rfl,e2,rl2,rv2,ht2⟩:=iJ hok r2 ru2
   by_cases hab:a=b
   ·subst hab;have:=wL p1 r1 (e2▸r2) p2;rw[this];exact SeqAt.EqAt.same _
   ·simp only[deq];rw[<-wU];have l1:its.toArray.size=ds.length:=by rw[bC,<-rv.length,rl.len]
    have l2:jts.toArray.size=es.length:=by rw[bC,<-rv2.length,rl2.len]
    rw[<-l1,<-l2];simp only[pl] at p1 p2;simp only[dep] at hu;refine .of_refs hab<|.tuples ht ht2 hu' λj h1 h2=> ?_;exact vT hok ds p1 p2 rl rl2 rv rv2 (A:=A.in1) (by show A.units+1+_<AS;omega) (by simp)<|by simp
 |.lst ds,d2,v1,v2,u1,u2,A,p1,p2,r1,r2,ru1,ru2,hu=>by
  have hu':A.units<AS:=by omega
  obtain⟨a,xs,its,rfl,rfl,rl,rv,ht⟩:=lV hok r1 ru1;cases d2 with
  |non=>simp only[Rep] at r2;subst r2;cases ru2;exact SeqAt.EqAt.list_none ht hu'
  |bl b=>simp only[Rep] at r2;subst r2;cases ru2;exact SeqAt.EqAt.list_bool b ht hu'
  |int b=>simp only[Rep] at r2;subst r2;obtain⟨t,rfl⟩:=ru2;exact SeqAt.EqAt.list_int b t ht hu'
  |str b=>simp only[Rep] at r2;subst r2;obtain⟨t,rfl⟩:=ru2;exact SeqAt.EqAt.list_str b t ht hu'
  |dic=>simp[pl] at p2
  |dki=>simp[pl] at p2
  |any=>simp[pl] at p2
  |scr=>simp[pl] at p2
  |tup es=>obtain⟨b,ys,jts,rfl,rfl,rl2,rv2,hl2⟩:=iJ hok r2 ru2;exact SeqAt.EqAt.list_tuple ht hl2 hu'
  |lst es=>
   obtain⟨b,ys,jts,rfl,e2,rl2,rv2,ht2⟩:=lV hok r2 ru2
   by_cases hab:a=b
   ·subst hab;have:=wL p1 r1 (e2▸r2) p2;rw[this];exact SeqAt.EqAt.same _
   ·simp only[deq];have l1:its.toArray.size=ds.length:=by rw[bC,<-rv.length,rl.len]
    have l2:jts.toArray.size=es.length:=by rw[bC,<-rv2.length,rl2.len]
    simp only[pl] at p1 p2;simp only[dep] at hu
    by_cases hl:ds.length=es.length
    ·rw[<-yK hl,<-l1];refine .of_refs hab<|.lists ht ht2 (by rw[l1,l2,hl]) hu' λj h1 h2=> ?_;exact vT hok ds p1 p2 rl rl2 rv rv2 (A:=A.in1) (by show A.units+1+_<AS;omega) (by simp)<|by simp
    ·rw[aBD hl];exact .of_refs hab<|.lists_lengths ht ht2 (by rw[l1,l2];simpa using hl) hu'
 |.dic,_,_,_,_,_,_,p1,_,_,_,_,_,_=>by simp[pl] at p1
 |.dki _ _,_,_,_,_,_,_,p1,_,_,_,_,_,_=>by simp[pl] at p1
 |.any _,_,_,_,_,_,_,p1,_,_,_,_,_,_=>by simp[pl] at p1
 |.scr _,_,_,_,_,_,_,p1,_,_,_,_,_,_=>by simp[pl] at p1
 |.non,d2,v1,v2,u1,u2,A,p1,p2,r1,r2,ru1,ru2,hu=>by
  have hu':A.units<AS:=by omega
  simp only[Rep] at r1;subst r1;cases hf:pU d2 with
  |true=>obtain⟨h1,h2⟩:=tW hf r2;have:=wC (A:=A) (s:=s) ru1 ru2 rfl h1;cases d2<;>simp_all[pU,flt,Rep,deq,eqV]
  |false=>
   cases ru1;cases d2 with
   |tup es=>obtain⟨b,ys,jts,rfl,e2,rl2,rv2,ht2⟩:=iJ hok r2 ru2;exact SeqAt.EqAt.none_tuple ht2 hu'
   |lst es=>obtain⟨b,ys,jts,rfl,e2,rl2,rv2,ht2⟩:=lV hok r2 ru2;exact SeqAt.EqAt.none_list ht2 hu'
   |dic=>simp[pl] at p2
   |dki=>simp[pl] at p2
   |any=>simp[pl] at p2
   |scr=>simp[pl] at p2
   |_=>simp[pU] at hf
 |.bl q,d2,v1,v2,u1,u2,A,p1,p2,r1,r2,ru1,ru2,hu=>by
  have hu':A.units<AS:=by omega
  simp only[Rep] at r1;subst r1;cases hf:pU d2 with
  |true=>obtain⟨h1,h2⟩:=tW hf r2;have:=wC (A:=A) (s:=s) ru1 ru2 rfl h1;cases d2<;>simp_all[pU,flt,Rep,deq,eqV]
  |false=>
   cases ru1;cases d2 with
   |tup es=>obtain⟨b,ys,jts,rfl,e2,rl2,rv2,ht2⟩:=iJ hok r2 ru2;exact SeqAt.EqAt.bool_tuple q ht2 hu'
   |lst es=>obtain⟨b,ys,jts,rfl,e2,rl2,rv2,ht2⟩:=lV hok r2 ru2;exact SeqAt.EqAt.bool_list q ht2 hu'
   |dic=>simp[pl] at p2
   |dki=>simp[pl] at p2
   |any=>simp[pl] at p2
   |scr=>simp[pl] at p2
   |_=>simp[pU] at hf
 |.int q,d2,v1,v2,u1,u2,A,p1,p2,r1,r2,ru1,ru2,hu=>by
  have hu':A.units<AS:=by omega
  simp only[Rep] at r1;subst r1;cases hf:pU d2 with
  |true=>obtain⟨h1,h2⟩:=tW hf r2;have:=wC (A:=A) (s:=s) ru1 ru2 rfl h1;cases d2<;>simp_all[pU,flt,Rep,deq,eqV]
  |false=>
   obtain⟨t,rfl⟩:=ru1;cases d2 with
   |tup es=>obtain⟨b,ys,jts,rfl,e2,rl2,rv2,ht2⟩:=iJ hok r2 ru2;exact SeqAt.EqAt.int_tuple q t ht2 hu'
   |lst es=>obtain⟨b,ys,jts,rfl,e2,rl2,rv2,ht2⟩:=lV hok r2 ru2;exact SeqAt.EqAt.int_list q t ht2 hu'
   |dic=>simp[pl] at p2
   |dki=>simp[pl] at p2
   |any=>simp[pl] at p2
   |scr=>simp[pl] at p2
   |_=>simp[pU] at hf
 |.str q,d2,v1,v2,u1,u2,A,p1,p2,r1,r2,ru1,ru2,hu=>by
  have hu':A.units<AS:=by omega
  simp only[Rep] at r1;subst r1;cases hf:pU d2 with
  |true=>obtain⟨h1,h2⟩:=tW hf r2;have:=wC (A:=A) (s:=s) ru1 ru2 rfl h1;cases d2<;>simp_all[pU,flt,Rep,deq,eqV]
  |false=>
   obtain⟨t,rfl⟩:=ru1;cases d2 with
   |tup es=>obtain⟨b,ys,jts,rfl,e2,rl2,rv2,ht2⟩:=iJ hok r2 ru2;exact SeqAt.EqAt.str_tuple q t ht2 hu'
   |lst es=>obtain⟨b,ys,jts,rfl,e2,rl2,rv2,ht2⟩:=lV hok r2 ru2;exact SeqAt.EqAt.str_list q t ht2 hu'
   |dic=>simp[pl] at p2
   |dki=>simp[pl] at p2
   |any=>simp[pl] at p2
   |scr=>simp[pl] at p2
   |_=>simp[pU] at hf
theorem vT(hok:HOk P w H s.heap):∀ (ds:List D) {es:List D}{xs ys:List V}{its jts:List BD}{j:Nat}{x y:BD}{A:BG},plL ds=true->plL es=true->RepL K H ds xs->RepL K H es ys->Vals xs its->Vals ys jts->A.units+lA ds<AS->its[j]? =some x->jts[j]? =some y->SeqAt.EqAt A s x y (dAt ds es j)
 |[],es,xs,ys,its,jts,j,x,y,A,_,_,r1,_,v1,_,_,e1,_=>by simp only[RepL] at r1;subst r1;cases v1;simp at e1
 |d::ds,es,xs,ys,its,jts,j,x,y,A,p1,p2,r1,r2,v1,v2,hu,e1,e2=>by
  obtain⟨a,as,rfl,ra,rl⟩:=r1.uncons;cases v1 with
  |cons va vas=>
   cases es with
   |nil=>simp only[RepL] at r2;subst r2;cases v2;simp at e2
   |cons e es=>
    obtain⟨b,bs,rfl,rb,rl2⟩:=r2.uncons;cases v2 with
    |cons vb vbs=>
     simp only[plL,bO] at p1 p2;simp only[lA] at hu;cases j with
     |zero=>simp at e1 e2;subst e1 e2;exact rN hok d p1.1 p2.1 ra rb va vb<|by omega
     |succ j=>exact vT hok ds p1.2 p2.2 rl rl2 vas vbs (by omega) (by simpa using e1) (by simpa using e2)
end
theorem rc_D{d1 d2:D}{u:V}{x y:BD}{Q:BD->BE->Prop}(I:Inv X pins σ H s)(hs:(isT d1=true/\isT d2=true)\/(isL d1=true/\isL d2=true))(p1:pl d1=true)(p2:pl d2=true)(r1:Rep K H d1 v)(r2:Rep K H d2 u)(rx:RelV v x)(ry:RelV u y)
  (hu:X.A.units+dep d1+1<AS) (q:Q (.bool<|deq d1 d2) s):AK (AG X.prog X.w) X.A (AW .Eq x y) Q X.xe s:=by
 have hu':X.A.units<AS:=by omega
 rcases hs with⟨t1,t2⟩|⟨t1,t2⟩
 ·cases d1<;>first|(simp[isT] at t1;done)|skip
  cases d2<;>first|(simp[isT] at t2;done)|skip
  rename_i ds es;obtain⟨a,xs,its,rfl,rfl,rl,rv,ht⟩:=iJ I.hok r1 rx;obtain⟨b,ys,jts,rfl,rfl,rl2,rv2,ht2⟩:=iJ I.hok r2 ry;have l1:its.toArray.size=ds.length:=by rw[bC,<-rv.length,rl.len]
  have l2:jts.toArray.size=es.length:=by rw[bC,<-rv2.length,rl2.len]
  simp only[pl] at p1 p2;simp only[dep] at hu;simp only[deq] at q;rw[<-wU,<-l1,<-l2] at q;exact SeqAt.eq_tupleAt ht ht2 hu' (λj h1 h2=>vT I.hok ds p1 p2 rl rl2 rv rv2 (A:=X.A.in1) (by show X.A.units+1+_<AS;omega) (by simp)<|by simp) q
 ·cases d1<;>first|(simp[isL] at t1;done)|(simp[pl] at p1;done)|skip
  cases d2<;>first|(simp[isL] at t2;done)|(simp[pl] at p2;done)|skip
  rename_i ds es;obtain⟨a,xs,its,rfl,rfl,rl,rv,ht⟩:=lV I.hok r1 rx;obtain⟨b,ys,jts,rfl,rfl,rl2,rv2,ht2⟩:=lV I.hok r2 ry;have l1:its.toArray.size=ds.length:=by rw[bC,<-rv.length,rl.len]
  have l2:jts.toArray.size=es.length:=by rw[bC,<-rv2.length,rl2.len]
  simp only[pl] at p1 p2;simp only[dep] at hu;simp only[deq] at q
  by_cases hl:ds.length=es.length
  ·rw[<-yK hl,<-l1] at q;exact SeqAt.eq_listAt ht ht2 (by rw[l1,l2,hl]) hu' (λj h1 h2=>vT I.hok ds p1 p2 rl rl2 rv rv2 (A:=X.A.in1) (by show X.A.units+1+_<AS;omega) (by simp)<|by simp) q
  ·rw[aBD hl] at q;exact SeqAt.eq_list_lengthsAt ht ht2 (by rw[l1,l2];simpa using hl) hu' q
theorem ResOk.rep(S:StF K H₀ F H σ sd)(hk:r.keeps)(q:ResOk K F H sd r v):Rep K H r.toD v:=by
 cases r with
 |val d=>exact Rep.mono S.sub q
 |own ds=>exact hk.elim
 |pr d ls=>exact hk.elim
 |ox G=>exact hk.elim
 |bor ds=>obtain⟨l,xs,e,hl,rl,_⟩:=q;simp only[R.toD,Rep];exact⟨l,xs,e,hl,rl.mono S.sub⟩
theorem aNh(K:aA)(d1 d2:D)(hs:(isT d1=true/\isT d2=true)\/(isL d1=true/\isL d2=true))(p1:pl d1=true)(p2:pl d2=true)(hu:X.A.units+dep d1+1<AS):OpR X (AW .Eq) (λx y H Q=>Rep K H d1 x/\Rep K H d2 y/\Q (.bl<|deq d1 d2) H):=by intro pins s σ H x y v u Q I rx ry h;obtain⟨h1,h2,q⟩:=h;exact rc_D I hs p1 p2 h1 h2 rx ry hu ⟨.bl<|deq d1 d2,H,I,rfl,q⟩
theorem aMY(ha:PEd X sd a ra)(hb:PEd X sd b rb)(ka:ra.keeps)(kb:rb.keeps)(hs:(isT ra.toD=true/\isT rb.toD=true)\/(isL ra.toD=true/\isL rb.toD=true))(p1:pl ra.toD=true)(p2:pl rb.toD=true)(hu:X.A.units+dep ra.toD+1<AS):PEd X sd (.Compare a [.Eq] [b] pos) (.val (.bl<|deq ra.toD rb.toD)):=
 tJ (aNh X.K _ _ hs p1 p2 hu) ha hb ka (iH _) λσ F H v u Q S q1 q2 k=>⟨q1.rep S ka,q2.rep S kb,k F H S<|Same.refl _⟩
noncomputable def aMn(K:aA):R2:=λx y H Q=>∃a b ys,x=.ref a/\y=.ref b/\SqT K H a []/\SqT K H b ys/\Q (.ref b) H
theorem op_catT0:OpR X (Ao .Add) (aMn X.K):=by
 intro pins s σ H x y v u Q I rx ry h;obtain⟨a,b,ys,rfl,rfl,ha,hb,q⟩:=h;cases rx;cases ry;obtain⟨its,r1,p1,_⟩:=I.tuple ha;obtain⟨its2,r2,p2,_⟩:=I.tuple hb;cases r1;obtain⟨⟨cls,dd,data,sl⟩,ho,hc,n,hd⟩:=id p1;obtain⟨⟨cls2,dd2,data2,sl2⟩,ho2,hc2,n2,hd2⟩:=id p2;simp only at hc hd hc2 hd2;subst hc hd hc2 hd2
 exact concat_meets ⟨_,ho,rfl⟩ ⟨_,ho2,rfl⟩ noFill_tuple_add seq_tuple_add nD mP (mC _ _)
  (tuple_addW0 a b ([]:List BD).toArray its2.toArray n n2 dd dd2 sl sl2<|by simp) ⟨ho,ho2,⟨.ref b,H,I,rfl,q⟩⟩
theorem tI{d1 d2:List D}(ha:PEd X sd a (.val<|.tup d1))(hb:PEd X sd b (.val<|.tup d2))(hl:d1.length+d2.length<=10000):PEd X sd (.BinOp a .Add b pos) (.val (.tup<|d1++d2)):=
 aCY (op_catT0.or aKs) ha hb trivial λσ F H v u Q S q1 q2 k=>by
  simp only[ResOk,Rep] at q1 q2;obtain⟨p,xs,e1,hp,rl⟩:=q1;obtain⟨q,ys,e2,hq,rl2⟩:=q2;cases d1 with
  |nil=>simp only[RepL] at rl;subst rl;refine .inl ⟨p,q,ys,e1,e2,.of<|S.sub _ _ hp,.of<|S.sub _ _ hq,k _ F H S (Same.refl _) ?_⟩;simp only[ResOk,Rep,xA];exact⟨q,ys,rfl,hq,rl2⟩
  |cons z zs=>
   refine .inr ⟨p,q,xs,ys,e1,e2,.of<|S.sub _ _ hp,.of<|S.sub _ _ hq, ?_,by rw[rl.len,rl2.len];exact dA<|eV hl,λhy=> ?_,λhy p2 hp2=> ?_⟩
   ·intro hx;subst hx;obtain⟨_,_,w,_⟩:=rl.uncons;cases w
   ·subst hy
    have:d2=[]:=by
     cases d2 with
     |nil=>rfl
     |cons w ws=>obtain⟨_,_,w,_⟩:=rl2.uncons;cases w
    subst this;refine k _ F H S (Same.refl _) ?_;simp only[ResOk,Rep,bG];exact⟨p,xs,rfl,hp,rl⟩
   ·obtain⟨S2,s2⟩:=S.lay (o:=.tup<|xs++ys) hp2 trivial;refine k _ _ _ S2 s2 ?_;simp only[ResOk,Rep];exact⟨p2,_,rfl,bJ,(rl.app rl2).mono s2⟩
theorem kQ{p:Pos}(hg:Gl X "tuple")(hm:X.mg "tuple"=none)(ha:PEd X sd e (.bor ds))(hst:AB [e] X.env=(false,eval e X.env)::AB [] X.env:=by rfl):PEd X sd (.Call (.Name "tuple" p) [e] [] pos) (.val<|.tup ds):=
 xW (he:=hst) xI hg hm PyProof.Rows.boot_tuple (aB ha aM trivial hst) λσ F H vs Q S q k=>by
  cases q with
  |cons q1 q2=>cases q2;obtain⟨p,xs,rfl,hp,rl,_⟩:=q1;refine⟨p,xs,rfl,.inl ⟨.of hp,λl hl=> ?_⟩⟩;obtain⟨S2,s2⟩:=S.lay (o:=.tup xs) hl trivial;refine k _ _ _ S2 s2 ?_;simp only[ResOk,Rep];exact⟨l,xs,rfl,bJ,rl.mono s2⟩
noncomputable def Ite(K:aA)(a:BF):It:=
 ⟨λi H=>∃xs x,SqL K H a xs/\xs[i]? =some x,λi H x H'=>∃p v,x=.ref p/\H p=none/\H'=upd H p (.tup [.int i,v])/\∀xs,SqL K H a xs->xs[i]? =some v,λi H=>∃xs,SqL K H a xs/\xs.length<=i⟩
theorem aJZ{h':BH}{t':Nat}{e it:BF}(I:Inv X pins σ H s)(k:∀b o,b≠e->b≠it->s.heap.get? b=some o->h'.get? b=some o)(f1:uL X pins H e)(f2:uL X pins H it):Inv X pins σ H {s with heap:=h',toks:=t'}:=by
 have nit:∀b u,H b=some u->b≠e/\b≠it:=λb u q=>⟨λz=>(by rw[z,f1.1] at q;cases q),λz=>(by rw[z,f2.1] at q;cases q)⟩
 have ne:∀b,b∉[e,it]->b≠e/\b≠it:=λb hc=>⟨λz=>hc (by simp[z]),λz=>hc<|by simp[z]⟩
 refine I.step (g':=s.gens) (d':=s.drawn) (ch:=[e,it]) (λb hb=> ?_) (λb o _ _ hc q _=>k b o (ne b hc).1 (ne b hc).2 q) (λb o _ _ hc q _=>⟨o.slots,k b o (ne b hc).1 (ne b hc).2 q⟩) (λ_ _ _ _ n=>n)
  (λb o hc q=>⟨o,k b o (ne b hc).1 (ne b hc).2 q⟩) (λ_ _ q=>q) (λ_ _ _ q=>q) (λb ps q=>⟨#[],by rw[q];simp⟩) (λm hm=> ?_) (λb u q=> ?_) I.bare
 ·rcases bA.mp hb with z|hb
  ·subst z;exact⟨f1.2.2.2.1,f1.2.1,f1.2.2.2.2.1,f1.2.2.2.2.2⟩
  ·have z:b=it:=by simpa using hb
   subst z;exact⟨f2.2.2.2.1,f2.2.1,f2.2.2.2.2.1,f2.2.2.2.2.2⟩
 ·obtain⟨o,es,ep,ho,r⟩:=hm;exact⟨o,es,ep,k _ o (Ne.symm f1.2.1) (Ne.symm f2.2.1) ho,r⟩
 ·refine(I.hok b u q).stay (λc v hc g=> ?_) (λ_ g=>g) λ_ _ g=>g
  rcases hc with z|z
  ·rw[z] at g ⊢;exact k b v (nit b u q).1 (nit b u q).2 g
  ·exact k c v (nit c _ z).1 (nit c _ z).2 g
theorem aEX{elts:List Expr}{kk:Nat}(a e it:BF)(hei:e≠it):aIG P w K (.Tuple elts kk pos) (Ite K a) [e,it] e (λi h=>(∃old,IsEnum h e it i old)/\h.IsListIter it a i) where
 mem:=by simp
 obj:=λi h st b hb=>by
  obtain⟨⟨old,he⟩,hit⟩:=st
  rcases bA.mp hb with z|hb
  ·subst z;exact⟨_,he,λv z=>by cases z⟩
  ·have z:b=it:=by simpa using hb
   subst z;obtain⟨o,q,c,d⟩:=hit;exact⟨o,q,λv z=>by rw[d] at z;cases z⟩
 keep:=λi h h' st k=>by obtain⟨⟨old,he⟩,hit⟩:=st;exact⟨⟨old,k e (by simp) _ he⟩,hit.at λo q=>k it (by simp) o q⟩
 item:=by
  intro X hP hw hK hc i pins s σ H E I hf st hg;subst hP hw hK;obtain⟨⟨old,he⟩,hit⟩:=st;obtain⟨xs,x,hq,hx⟩:=hg;obtain⟨its,rv,p,hz⟩:=I.list hq;obtain⟨u,hu,ru⟩:=rv.get hx;have f1:=hf e (by simp);have f2:=hf it (by simp);refine wpAny_pyNext_enum_item he hit p.isList (x:=u) (by simpa using hu) hei λh1 heo hit1 ht1 hz1 hk1=> ?_
  refine⟨_,rfl,wpAny_letOwnedTupleGo_enum heo λh2 he2 hs2=> ?_⟩;have hs2:Heap.SameBut e h1 h2:=hs2;have esz:e<s.heap.objs.size:=aP he;have isz:it<s.heap.objs.size:=by obtain⟨_,q,_⟩:=hit;exact aP q
  have I1:Inv X pins σ H {s with heap:=h2,toks:=s.toks+1}:=aJZ I (λb o h1' h2' q=>(hs2.2 b h1').trans<|hk1 b o h1' h2' q) f1 f2;have hn:H s.heap.objs.size=none:=I.hok.fresh<|aJ _;have g2:h2.get? s.heap.objs.size=some {cls:=.type "tuple",data:=.seq #[.int i s.toks,u]}:=(hs2.2 _<|jR esz).trans ht1
  have I2:Inv X pins σ (upd H s.heap.objs.size<|.tup [.int i,x]) {s with heap:=h2,toks:=s.toks+1}:=by
   refine I1.track hn I.sz (jR I.lt) (λy c q=> ?_) (λy hy=> ?_) ⟨by show 2<=AM;decide,[.int i s.toks,u],.cons ⟨_,rfl⟩<|.cons ru .nil,⟨_,g2,rfl,⟨_,rfl⟩,rfl⟩⟩
   ·obtain⟨v,o,ho,_⟩:=I.cell y c q;exact bQ<|aP ho
   ·exact bQ<|aP (I.pin y hy).1
  refine⟨.ref s.heap.objs.size,_,I2,rfl,⟨_,x,rfl,hn,rfl,λys hy=>by rw[I.list_inj hy hq];exact hx⟩,⟨⟨u, ?_⟩, ?_⟩,λb hb=> ?_⟩
  ·have:((i+1:Nat):Int)=(i:Int)+1:=by push_cast;rfl
   rw[this];exact he2
  ·exact hit1.at λo q=>(hs2.2 it<|Ne.symm hei).trans q
  ·rcases bA.mp hb with z|hb
   ·subst z;rw[aR<|bQ esz];exact f1.1
   ·have z:b=it:=by simpa using hb
    subst z;rw[aR<|bQ isz];exact f2.1
 done:=by intro X hP hw hK hc i pins s σ H E I hf st hg;subst hP hw hK;obtain⟨⟨old,he⟩,hit⟩:=st;obtain⟨xs,hq,hx⟩:=hg;obtain⟨its,rv,p,hz⟩:=I.list hq;obtain⟨f0,f1,f2,f3,f4,f5⟩:=hf it (by simp);have hl:=rv.length;exact wpAny_pyNext_enum_end (I.ok.hd hc) he hit p.isList (by simp;omega) λh' eb=>⟨rfl,I.turned (t':=s.toks) (λb o hb q=>eb b o hb q) f0 f1 f3 f4 f5⟩
 self:=λ_ _ _ _ _ st h=>by obtain⟨⟨old,he⟩,_⟩:=st;exact wpAny_pyIter_enum he h
noncomputable def aOU(K:aA)(ta:TA):TI:=λσ H R=>ta σ H λvs H1=>∃l,vs=[.ref l]/\(∃xs,SqL K H1 l xs)/\R (Ite K l) H1
theorem aKl{elts:List Expr}{kk:Nat}{tp:Pos}{ta:TA}{p:Pos}(hg:Gl X "enumerate")(hm:X.mg "enumerate"=none)(ha:PA X [a] ta)(hs:AB [a] X.env=[(false,eval a X.env)]:=by rfl):PI X (.Tuple elts kk tp) (.Call (.Name "enumerate" p) [a] [] pos) (aOU X.K ta):=by
 intro pins s σ H R I h;refine Call_ (lW I hg hm boot_enumerate<|PyProof.Rows.callWith_type1 (thn (ha pos pins s σ H _ I h) λus s1 ⟨vs,H1,I1,r1,q1⟩=> ?_) hs rfl);obtain⟨l,rfl,⟨xs,hq⟩,q⟩:=q1;cases r1 with
 |cons r rr=>
  cases rr;cases r;obtain⟨its,rv,p,hz⟩:=I1.list hq;refine call_enumerate_list p.isList λh' he hit hsz hk=> ?_
  refine wpAny_pyIter_enum he ?_;have I2:Inv X pins σ H1 {s1 with heap:=h'}:=I1.kept (t':=s1.toks) hk;refine⟨s1.heap.objs.size+1,[s1.heap.objs.size+1,s1.heap.objs.size],_,Ite X.K l,H1,rfl,I2,aEX l _ _<|Nat.succ_ne_self _,⟨⟨_,he⟩,hit⟩,λb hb=> ?_,q⟩
  rcases bA.mp hb with z|hb
  ·subst z;exact I1.fpOk (gM _) (I1.hok.fresh<|gM _)
  ·have z:b=s1.heap.objs.size:=by simpa using hb
   subst z;exact I1.fpOk (aJ _) (I1.hok.fresh<|aJ _)
noncomputable def lI(ds:List D):List D:=(bR ds.length).map λ(i:Nat)=>D.tup [.int (i:Int),ds.getD i .non]
theorem kP(ds:List D):(lI ds).length=ds.length:=by simp[lI]
theorem mH{i:Nat}(h:(lI ds)[i]? =some d):∃x,ds[i]? =some x/\d=.tup [.int (i:Int),x]:=by
 unfold lI at h;rw[aZ] at h
 by_cases hi:i<ds.length
 ·rw[aFB hi] at h;refine⟨ds[i],by simp[hi], ?_⟩;rw[<-bM.inj h];simp[cK,hi]
 ·rw[gR<|by simpa using hi] at h;cases h
def LP(K:aA)(l:BF)(ds:List D):Hp->Hp->Prop:=λF H=>∃xs,H l=some (.lst xs)/\RepL K F ds xs
theorem aGQ{F₁:Hp}{l:BF}:ItD X.K F₁ (LP X.K l ds) (Ite X.K l) (lI ds):=λF H _ sH sm hP i=>by
 obtain⟨xs,hl,rl⟩:=hP;refine⟨λhi=> ?_,λhi=> ?_,λx H' d hd y=> ?_⟩
 ·rw[kP] at hi;exact⟨xs,xs[i]'(by rw[rl.len];exact hi),.of hl,by simp[rl.len,hi]⟩
 ·rw[kP] at hi;exact⟨xs,.of hl,by rw[rl.len];exact hi⟩
 ·obtain⟨p,v,rfl,hp,rfl,hv⟩:=y;obtain⟨z,hz,rfl⟩:=mH hd;have hv:=hv xs<|.of hl;obtain⟨v',h1,rz⟩:=rl.get hz;rw[hv] at h1;cases h1;have fp:F p=none:=sH.free hp;have s1:Same F (upd F p<|.tup [.int i,v]):=λb u q=>by rw[aR<|cC q fp];exact q
  refine⟨upd F p<|.tup [.int i,v],s1, ?_,λH₀ σ sd S=>(S.lay (o:=.tup [.int i,v]) hp trivial).1⟩;simp only[Rep];exact⟨p,_,rfl,bJ,.cons (by simp only[Rep]) (.one<|rz.mono s1)⟩
theorem qG{elts:List Expr}{kk:Nat}{tp p:Pos}(hg:Gl X "enumerate")(hm:X.mg "enumerate"=none)(ha:PEd X sd a (.val<|.lst ds))(hst:AB [a] X.env=[(false,eval a X.env)]:=by rfl):
  PId X sd PT0 (.Tuple elts kk tp) (.Call (.Name "enumerate" p) [a] [] pos) (lI ds):=.mk λσ F H S=>
 (aKl hg hm qT hst).to ((aB ha aM trivial (by rw [hst]; rfl) σ F H S).imp fun vs H1 ⟨F1,S1,s1,q1⟩=>by
  cases q1 with
  |cons q1 q2=>
   cases q2;simp only[ResOk,Rep] at q1;obtain⟨l,xs,rfl,hl,rl⟩:=q1;refine⟨l,rfl,⟨xs,.of<|S1.sub _ _ hl⟩,F1,S1,s1,λF' H' sF sH sm _ i=> ?_⟩
   exact aGQ (X:=X) (F₁:=F1) F' H' sF sH sm ⟨xs,sH _ _ (sF _ _ hl),rl.mono sF⟩ i)
theorem aKD{ns:List Int}{us:List BD}(r:Vals (ns.map V.int) us){i:Nat}{u:BD}(h:us[i]? =some u):i<ns.length/\∃t,u=.int (ns.getD i 0) t:=by
 have hl:=r.length;rw[aC] at hl;have hi:i<us.length:=(aD.mp h).1
 have e:(ns.map V.int)[i]? =some (.int<|ns.getD i 0):=by
  rw[aZ];have:i<ns.length:=by omega
  simp[cK,this]
 obtain⟨u',h1,t,h2⟩:=r.get e;rw[h] at h1;cases h1;exact⟨by omega,t,h2⟩
noncomputable def cutD(ds:List D)(lo hi:Option Int):List D:=(ds.drop<|HT.sIx ds.length 0 lo).take<|HT.sIx ds.length ds.length hi-HT.sIx ds.length 0 lo
theorem RepL.cut{xs:List V}(r:RepL K H ds xs)(lo hi:Option Int):RepL K H (cutD ds lo hi) (aII xs lo hi):=by unfold cutD aII;rw[r.len];exact(r.drop _).take _
def POd(X:Cx)(sd:List Slot)(e:Option Expr)(o:Option Int):Prop:=match e,o with
 |none,none=>True
 |some e,some i=>PEd X sd e (.val<|.int i)
 |_,_=>False
theorem tM{eo:Option Expr}{o:Option Int}(h:POd X sd eo o):∃t:TO,PO X eo t/\∀ (σ:St) (F H:Hp),StF X.K X.B₀ F H σ sd->∀Q:Option Int->Hp->Prop,(∀F' H',StF X.K X.B₀ F' H' σ sd->Same F F'->Q o H')->t σ H Q:=by
 cases eo with
 |none=>
  cases o with
  |none=>exact⟨_,aKt,λσ F H S Q k=>k F H S<|Same.refl _⟩
  |some i=>exact h.elim
 |some e=>
  cases o with
  |none=>exact h.elim
  |some i=>have h:PEd X sd e (.val<|.int i):=h;refine⟨_,aJf eR,λσ F H S Q k=>(h σ F H S).imp λv H1 ⟨F1,S1,s1,q1⟩=> ?_⟩;simp only[ResOk,Rep] at q1;exact⟨i,q1,k F1 H1 S1 s1⟩
theorem vS{lo hi:Option Expr}{ol oh:Option Int}{p2:Pos}(ha:PEd X sd a (.val<|.tup ds))(hl:POd X sd lo ol)(hh:POd X sd hi oh)(hn:¬ (HT.sIx ds.length 0 ol=0/\HT.sIx ds.length ds.length oh=ds.length)):PEd X sd (.Subscript a (.Slice lo hi none p2) pos) (.val (.tup<|cutD ds ol oh)):=.mk λσ F H S=>by obtain⟨tl,pl,kl⟩:=tM hl;obtain⟨th,ph,kh⟩:=tM hh;refine(aBq aMi eR pl ph).to<|(ha σ F H S).imp λv H1 ⟨F1,S1,s1,q1⟩=>kl σ F1 H1 S1 _ λF2 H2 S2 s2=>kh σ F2 H2 S2 _ λF3 H3 S3 s3=> ?_;have q1:=Rep.mono (s2.trans s3) q1;simp only[Rep] at q1;obtain⟨l,xs,rfl,hl',rl⟩:=q1;refine⟨l,xs,rfl,.of<|S3.sub _ _ hl',by rw[rl.len];exact hn,λp hp=> ?_⟩;obtain⟨S4,s4⟩:=S3.lay (o:=.tup<|aII xs ol oh) hp trivial;refine⟨_,S4,((s1.trans s2).trans s3).trans s4, ?_⟩;simp only[ResOk,Rep];exact⟨p,_,rfl,bJ,(rl.cut ol oh).mono s4⟩
theorem mJ{body:List BJ}{P:Hp->Hp->Prop}(Sd:Nat->List Slot->Prop)(hi:PId X sd P tg iter ds)(h0:∃sd0,Le sd sd0/\Sd 0 sd0)
  (hb:∀k d sdk,ds[k]? =some d->Sd k sdk->∃sdt,PGd X sdk tg d sdt/\PSd X sdt body {E with nx:=λsd'=>∃sd2,Le sd' sd2/\Sd (k+1) sd2,ct:=λsd'=>∃sd2,Le sd' sd2/\Sd (k+1) sd2,bk:=E.nx}) (hE:∀sdn,Sd ds.length sdn->E.nx sdn) (hP:∀k sdk σ F H,Sd k sdk->StF X.K X.B₀ F H σ sdk->P F H:=by intros;trivial)
  (hc:X.calm=true:=by rfl) (hp:PassesOwn (AG X.prog X.w) X.A X.env X.xe:=by exact PassesOwn.never) (hs:∀x,Ay iter X.env x=pure x:=by intro _;rfl):PSd1 X sd (.For tg iter body [] pos) E:=.mk λσ F H S=>
 (aHD hp hc aPo aOo pss_w hs).to (by
  intro pins s I;refine thn (hi σ F H S pins s I) λv s1 h1=>thn h1 λitv s2 h2=> ?_
  obtain⟨it,fp,tn,J,H2,e,I2,T,st2,f2,F1,S1,s1',itd⟩:=h2;refine⟨it,fp,tn,J,H2,e,I2,T,st2,f2, ?_⟩;obtain⟨sd0,le0,q0⟩:=h0;refine⟨λi m σ' H'=>m=ds.length-i/\i<=ds.length/\∃sdi F',StF X.K X.B₀ F' H' σ' sdi/\Same F1 F'/\Sd i sdi,⟨ds.length,by simp,cQ _,sd0,F1,S1.le le0,Same.refl _,q0⟩, ?_⟩;rintro i m σ' H' ⟨rfl,hil,sdi,F',S',s',qi⟩;obtain⟨g1,g2,g3⟩:=itd F' H' s' S'.sub S'.smp (hP _ _ _ _ _ qi S') i
  by_cases hlt:i<ds.length
  ·refine .inr ⟨g1 hlt,λσ2 H2=>∃sd2 F2,StF X.K X.B₀ F2 H2 σ2 sd2/\Same F1 F2/\Sd (i+1) sd2,λσ2 H2 ⟨sd2,F2,S2,s2,q2⟩=>⟨ds.length-(i+1),by omega,rfl,hlt,sd2,F2,S2,s2,q2⟩,λx H2 y=> ?_⟩;have hd:ds[i]? =some ds[i]:=by simp[hlt]
   obtain⟨F2,s2,rp,up⟩:=g3 x H2 ds[i] hd y;obtain⟨sdt,hg,hbb⟩:=hb i _ sdi hd qi;refine(hg σ' F2 H2 x (up _ _ _ S') rp).imp λσ3 H3 ⟨F3,S3,s3⟩=> ?_
   have base:Same F1 F3:=(s'.trans s2).trans s3;refine(hbb σ3 F3 H3 S3).imp ?_ ?_ ?_ ?_
   ·rintro σ4 H4 ⟨sd4,F4,S4,s4,sd5,le,q5⟩;exact⟨sd5,F4,S4.le le,base.trans s4,q5⟩
   ·exact λv H4 q=>q
   ·rintro σ4 H4 ⟨sd4,F4,S4,s4,q⟩;exact⟨sd4,F4,S4,(s1'.trans base).trans s4,q⟩
   ·rintro σ4 H4 ⟨sd4,F4,S4,s4,sd5,le,q5⟩;exact⟨sd5,F4,S4.le le,base.trans s4,q5⟩
  ·have e:i=ds.length:=by omega
   subst e
   exact .inl ⟨g2 (aJ _),sdi,F',S',s1'.trans s',hE sdi qi⟩)
noncomputable def gO(m:Nat):Nat->List (List Int)
 |0=>[[]]
 |k+1=>(gO m k).flatMap λs=>(bR m).map λ(w:Nat)=>s++[(w:Int)]
noncomputable def bP(s:List Int):D:=.tup<|s.map D.int
noncomputable def sR(m:Int)(ws:List Int):Int:=ws.foldl (λn w=>n*m+w) 0
noncomputable def aOs(b k:Nat):Bool:=let L:=gO (2^b) k;L.length==2^(b*k)&&(bR L.length).all λi=>let f:=L.getD i [];f.length==k&&f.all (λw=>decide (0<=w)&&decide (w<2^b))&&decide (sR (2^b) f=i)&&(i==0||HT.lexLt (L.getD (i-1) []) f)
theorem aLC:∀p∈bW,aOs p.1.toNat p.2.toNat=true:=by decide+kernel
theorem vZ:∀p∈bW,1<=p.1/\p.1<=6/\1<=p.2/\p.2<=6/\p.1*p.2<=6:=by decide+kernel
theorem tR{m:Nat}:∀ {k:Nat}{ws:List Int},ws.length=k->(∀w∈ws,0<=w/\w<m)->ws∈gO m k
 |0,ws,h,_=>by have:ws=[]:=aBH.mp h;subst this;simp[gO]
 |k+1,ws,h,hw=>by
  have hne:ws≠[]:=by intro z;subst z;simp at h
  have e:ws=ws.dropLast++[ws.getLast hne]:=(kS hne).symm;have hl:=hw (ws.getLast hne)<|List.getLast_mem hne;have ih:ws.dropLast∈gO m k:=tR (by rw[List.length_dropLast,h];rfl) λw hm=>hw w<|List.dropLast_subset _ hm
  show ws∈(gO m k).flatMap λs=>(bR m).map λ(w:Nat)=>s++[(w:Int)]
  refine dU.mpr ⟨_,ih,aQ.mpr ⟨(ws.getLast hne).toNat,cU.mpr<|by omega, ?_⟩⟩;have:(((ws.getLast hne).toNat:Nat):Int)=ws.getLast hne:=by omega
  rw[this];exact e.symm
structure aMd(b k:Nat):Prop where
 len:(gO (2^b) k).length=2^(b*k)
 at_:∀i,i<2^(b*k)->((gO (2^b) k).getD i []).length=k/\(∀w∈(gO (2^b) k).getD i [],0<=w/\w<2^b)/\sR (2^b) ((gO (2^b) k).getD i [])=i/\(i=0\/HT.lexLt ((gO (2^b) k).getD (i-1) []) ((gO (2^b) k).getD i [])=true)
theorem aHC{b k:Nat}(h:aOs b k=true):aMd b k:=by unfold aOs at h;simp only[bO,beq_iff_eq,iL,cU,decide_eq_true_eq,xC] at h;obtain⟨h1,h2⟩:=h;refine⟨h1,λi hi=> ?_⟩;obtain⟨⟨⟨a,b⟩,c⟩,d⟩:=h2 i (by omega);exact⟨a,b,c,d⟩
theorem aMX{b k:Nat}(h:aMd b k){ws:List Int}(hl:ws.length=k)(hw:∀w∈ws,0<=w/\w<((2^b:Nat):Int)):0<=sR (2^b) ws/\(sR (2^b) ws).toNat<2^(b*k)/\(gO (2^b) k).getD (sR (2^b) ws).toNat []=ws:=by
 have hm:=tR hl hw;obtain⟨i,hi,e⟩:=List.mem_iff_getElem.mp hm;have e':(gO (2^b) k).getD i []=ws:=by simp[cK,hi,e]
 rw[h.len] at hi;have hn:=(h.at_ i hi).2.2.1;rw[e'] at hn;rw[hn];refine⟨by omega,by simpa using hi, ?_⟩;simpa using e'
theorem aBy:∀ (ws vs:List Int),lZ (ws.map D.int) (vs.map D.int)=decide (ws=vs)
 |[],[]=>by simp[lZ]
 |[],_::_=>by simp[lZ]
 |_::_,[]=>by simp[lZ]
 |w::ws,v::vs=>by
  simp only[aW,lZ,deq,aBy ws vs]
  by_cases h1:w=v<;>by_cases h2:ws=vs<;>simp[h1,h2]
theorem aBn(ws vs:List Int):deq (bP ws) (bP vs)=decide (ws=vs):=by unfold bP;simp only[deq,aBy]
theorem aAO:∀ws:List Int,plL (ws.map D.int)=true
 |[]=>rfl
 |w::ws=>by simp[plL,pl,aAO ws]
theorem xX:∀ws:List Int,lA (ws.map D.int)=0
 |[]=>rfl
 |w::ws=>by simp[lA,dep,xX ws]
theorem qP(ws:List Int):pl (bP ws)=true:=by simp[bP,pl,aAO]
theorem vC(ws:List Int):dep (bP ws)=1:=by simp[bP,dep,xX]
theorem wV:∀L:List (List Int),plL (L.map bP)=true
 |[]=>rfl
 |w::ws=>by simp[plL,qP,wV ws]
theorem rE:∀L:List (List Int),lA (L.map bP)<=1
 |[]=>by simp[lA]
 |w::ws=>by have:=rE ws;simp only[aW,lA,vC];omega
theorem aIP{i j:Int}(h1: -(2^64)<j)(h2:j<2^64):IntMulOk i j:=.of_right<|intBits_le_64 h1 h2
theorem oC{L:List (List Int)}{k:Nat}(h:(L.map bP)[k]? =some d):k<L.length/\d=bP (L.getD k []):=by
 rw[aZ] at h;cases e:L[k]? with
 |none=>rw[e] at h;cases h
 |some z=>rw[e] at h;refine⟨(aD.mp e).1, ?_⟩;rw[<-bM.inj h,cK,e];rfl
theorem aDL{g:Str}{ad:BF}{xs:List V}{p:Pos}(hg:Gl X g)(hm:X.mg g=some (.ref ad))(hq:∀H,SqT X.K H ad xs)(ha:PEd X sd a (.val d))(hd:flt d=some v)(fv:nF v=true)(fx:xs.all nF=true)
  (hk:AU .In (.Name g p)=false:=by with_unfolding_all rfl) (hdb:(g==("__debug__":Str))=false:=by decide):PTd X sd (.Compare a [.In] [.Name g p] pos) (inV v xs):=.mk λσ F H S=>
 (aAg aFn eR (aAo (v:= .ref ad) hg hm rfl hdb) hk).to ((ha σ F H S).imp fun x H1 ⟨F1,S1,s1,q1⟩=>by
  have e:=lM hd q1;subst e
  exact⟨ad,xs,rfl,.inr (hq H1),fv,fx,_,rfl,rfl,F1,S1,s1⟩)
def stepNames:List Str:=["and","or","xor","add","take","copy","put","not","up","down"]
noncomputable def nm(k:Nat):Str:=stepNames.getD k "down"
noncomputable def kB(k:Nat)(i j n:Int):D:=if k<6 then .tup [.str<|nm k,.int i,.int j] else if k=6 then .tup [.str<|nm k,.int i,.int n] else .tup [.str<|nm k,.int i]
noncomputable def aLW(k:Nat)(m a:Int):Int:=match k with
 |7=>m-1-a
 |8=>a*2%m
 |_=>a / 2
noncomputable def aHx(k:Nat)(m a c:Int):Int:=match k with
 |0=>Builtin.bitAnd a c
 |1=>Builtin.bitOr a c
 |2=>Builtin.bitXor a c
 |3=>(a+c)%m
 |4=>(a-c)%m
 |_=>c
noncomputable def newW(k:Nat)(m a c n:Int):Int:=if k=6 then n else if 7<=k then aLW k m a else aHx k m a c
theorem aMR:∀k,k<10->decide (V.str (nm k)=V.str "and")=decide (k=0):=by decide+kernel
theorem aOI:∀k,k<10->decide (V.str (nm k)=V.str "or")=decide (k=1):=by decide+kernel
theorem aNm:∀k,k<10->decide (V.str (nm k)=V.str "xor")=decide (k=2):=by decide+kernel
theorem aMV:∀k,k<10->decide (V.str (nm k)=V.str "add")=decide (k=3):=by decide+kernel
theorem aJw:∀k,k<10->decide (V.str (nm k)=V.str "take")=decide (k=4):=by decide+kernel
theorem aDm:∀k,k<10->decide (V.str (nm k)=V.str "put")=decide (k=6):=by decide+kernel
theorem aMF:∀k,k<10->decide (V.str (nm k)=V.str "not")=decide (k=7):=by decide+kernel
theorem aOK:∀k,k<10->decide (V.str (nm k)=V.str "up")=decide (k=8):=by decide+kernel
theorem aDz:∀k,k<10->inV (V.str<|nm k) [V.str "not",V.str "up",V.str "down"]=decide (7<=k):=by decide+kernel
theorem aGm:∀b,b<7->∀a,a<2^b->∀c,c<2^b->∀k,k<3->0<=aHx k 0 ((a:Nat):Int) ((c:Nat):Int)/\aHx k 0 ((a:Nat):Int) ((c:Nat):Int)<((2^b:Nat):Int):=by decide+kernel
theorem aOC{k:Nat}(h:k<3)(m a c:Int):aHx k m a c=aHx k 0 a c:=by
 match k,h with
 |0,_=>rfl
 |1,_=>rfl
 |2,_=>rfl
theorem aGn{b k:Nat}{a c n:Int}(hb:b<7)(hk:k<10)(ha:0<=a/\a<((2^b:Nat):Int))(hc:0<=c/\c<((2^b:Nat):Int))(hn:0<=n/\n<((2^b:Nat):Int)):0<=newW k ((2^b:Nat):Int) a c n/\newW k ((2^b:Nat):Int) a c n<((2^b:Nat):Int):=by
 have ea:a=((a.toNat:Nat):Int):=by omega
 have ec:c=((c.toNat:Nat):Int):=by omega
 have la:a.toNat<2^b:=by have:=ha.2;generalize 2^b=q at *;omega
 have lc:c.toNat<2^b:=by have:=hc.2;generalize 2^b=q at *;omega
 have tab:∀k,k<3->0<=aHx k ((2^b:Nat):Int) a c/\aHx k ((2^b:Nat):Int) a c<((2^b:Nat):Int):=λk hk=>by rw[aOC hk,ea,ec];exact aGm b hb _ la _ lc k hk
 have mpos:(0:Int)<((2^b:Nat):Int):=by omega
 match k,hk with
 |0,_=>exact tab 0<|by decide
 |1,_=>exact tab 1<|by decide
 |2,_=>exact tab 2<|by decide
 |3,_=>exact⟨cZ _<|iS mpos,cS _ mpos⟩
 |4,_=>exact⟨cZ _<|iS mpos,cS _ mpos⟩
 |5,_=>exact hc
 |6,_=>exact hn
 |7,_=>show 0<=((2^b:Nat):Int)-1-a/\((2^b:Nat):Int)-1-a<((2^b:Nat):Int);generalize ((2^b:Nat):Int)=q at *;omega
 |8,_=>exact⟨cZ _<|iS mpos,cS _ mpos⟩
 |9,_=>show 0<=a / 2/\a / 2<((2^b:Nat):Int);generalize ((2^b:Nat):Int)=q at *;omega
variable {o:Expr}
theorem PEd.ic{i j:Int}(h:PEd X sd e (.val<|.int i))(q:i=j):PEd X sd e (.val<|.int j):=q▸h
theorem xJ{prog:AE}{A:BG}{E:BD->BE->Prop}{t sl:BF}{items:Array BD}{vl vu:BD}{lo hi:Option Int}{Q:BD->BE->Prop}(ht:IsTup s.heap t items)(hs:s.heap.IsSliceOf sl vl vu .none)(pl:IsPart vl lo)(pu:IsPart vu hi)
  (hw:HT.sIx items.size 0 lo=0/\HT.sIx items.size items.size hi=items.size) (h:Q (.ref t) s):AK (AG prog w) A (getItem (.ref t)<|.ref sl) Q E s:=by
 obtain⟨os,hos,hcs,hds⟩:=id hs;have hTs:s.TypeIs (.ref sl) "slice":=⟨os,hos,hcs⟩;unfold getItem
 try with_reducible refine Ak ?_
 first|refine AA (AC ?_)|skip
 refine AA<|wpAny_sequenceKey ht.typeIs (by decide) ?_
 refine AA (Am (name:=Str.ofString "__getitem__") ht.typeIs PyProof.Rows.slot_tuple_getitem
  (As PyProof.Rows.slot_tuple_getitem ht.typeIs entry_tuple_getitem ?_ (args_tuple_getitem _ _)))
 show AK _ _ (Builtin.Tuple.tupleItemsOf (.ref t)>>=_) _ _ s;refine AA<|tupleItemsOf_ ht ?_;refine AA<|wpAny_typeOf hTs ?_;rw[if_pos<|by decide];refine AA<|HT.sliceApplied_gen hs pl pu ?_
 have yes:(((HT.sIx items.size 0 lo:Nat):Int)==0&&(1:Int)==1&&(HT.sIx items.size items.size hi-HT.sIx items.size 0 lo)==items.size)=true:=by rw[hw.1,hw.2];simp
 show AK _ _ (if(((HT.sIx items.size 0 lo:Nat):Int)==0&&(1:Int)==1&&(HT.sIx items.size items.size hi-HT.sIx items.size 0 lo)==items.size)=true then _ else _) _ _ s;rw[if_pos yes];refine AA ?_;unfold Builtin.Tuple.tupleIsExact;refine AA (wpAny_typeOf ht.typeIs<|AC ?_);rw[if_pos<|by decide];exact AA (BB<|AC ⟨_,rfl,AC h⟩)
theorem aJA:SlR X (λx lo hi H Q=>∃a xs,x=.ref a/\SqT X.K H a xs/\(HT.sIx xs.length 0 lo=0/\HT.sIx xs.length xs.length hi=xs.length)/\Q (.ref a) H):=by
 intro pins s σ H x v vl vu lo hi sl Q I rx hs pl pu h;obtain⟨a,xs,rfl,hx,hw,q⟩:=h;cases rx;obtain⟨its,r,ht,hz⟩:=I.tuple hx;have hlen:its.toArray.size=xs.length:=by rw[bC];exact r.length.symm
 refine⟨"tuple",_,PyProof.Rows.slot_tuple_getitem.lookup,ht.typeIs,xJ ht hs pl pu (by rw[hlen];exact hw) ⟨.ref a,H,I,rfl,q⟩⟩
theorem zI{lo hi:Option Expr}{ol oh:Option Int}{p2:Pos}(ha:PEd X sd a (.val<|.tup ds))(hl:POd X sd lo ol)(hh:POd X sd hi oh)(hw:HT.sIx ds.length 0 ol=0/\HT.sIx ds.length ds.length oh=ds.length):PEd X sd (.Subscript a (.Slice lo hi none p2) pos) (.val<|.tup ds):=.mk λσ F H S=>by obtain⟨tl,pl,kl⟩:=tM hl;obtain⟨th,ph,kh⟩:=tM hh;refine(aBq aJA eR pl ph).to<|(ha σ F H S).imp λv H1 ⟨F1,S1,s1,q1⟩=>kl σ F1 H1 S1 _ λF2 H2 S2 s2=>kh σ F2 H2 S2 _ λF3 H3 S3 s3=> ?_;have q1:=Rep.mono (s2.trans s3) q1;simp only[Rep] at q1;obtain⟨l,xs,rfl,hl',rl⟩:=q1;refine⟨l,xs,rfl,.of<|S3.sub _ _ hl',by rw[rl.len];exact hw,F3,S3,(s1.trans s2).trans s3, ?_⟩;simp only[ResOk,Rep];exact⟨l,xs,rfl,hl',rl⟩
theorem aGY{k:Nat}{p2:Pos}(ha:PEd X sd a (.val<|.tup ds))(hb:PEd X sd b (.val<|.int (k:Int))):PEd X sd (.Subscript a (.Slice none (some b) none p2) pos) (.val (.tup<|ds.take k)):=by
 by_cases h:k<ds.length
 ·have e:DL.cutD ds none (some (k:Int))=ds.take k:=by unfold DL.cutD;rw[HT.sIx_nat,HT.sIx_none,xO<|dA h];simp
  exact PEd.cast (vS (ol:=none) (oh:=some (k:Int)) ha trivial hb<|by rw[HT.sIx_nat,HT.sIx_none];omega) (by rw[e])
 ·rw[eQ<|by omega];exact zI (ol:=none) (oh:=some (k:Int)) ha trivial hb (by rw[HT.sIx_nat,HT.sIx_none];omega)
theorem aBs{k:Nat}{p2:Pos}(ha:PEd X sd a (.val<|.tup ds))(hb:PEd X sd b (.val<|.int (k:Int))):PEd X sd (.Subscript a (.Slice (some b) none none p2) pos) (.val (.tup<|ds.drop k)):=by
 by_cases h:0<k/\0<ds.length
 ·have e:DL.cutD ds (some (k:Int)) none=ds.drop k:=by
   unfold DL.cutD;rw[HT.sIx_nat,HT.sIx_none]
   by_cases q:k<=ds.length
   ·rw[xO q];exact eQ<|by simp
   ·rw[Nat.min_eq_right<|by omega,jP<|aJ _,jP<|by omega];simp
  exact PEd.cast (vS (ol:=some (k:Int)) (oh:=none) ha hb trivial<|by rw[HT.sIx_nat,HT.sIx_none];omega) (by rw[e])
 ·have e:ds.drop k=ds:=by
   by_cases q:k=0
   ·rw[q];rfl
   ·have:ds=[]:=aBH.mp (by omega);rw[this];simp
  rw[e];exact zI (ol:=some (k:Int)) (oh:=none) ha hb trivial (by rw[HT.sIx_nat,HT.sIx_none];omega)
mutual
noncomputable def noL:D->Bool
 |.tup ds=>aLf ds
 |.lst _=>false
 |.scr _=>false
 |.dic=>false
 |.dki _ _=>false
 |.any _=>false
 |_=>true
noncomputable def aLf:List D->Bool
 |[]=>true
 |d::ds=>noL d&&aLf ds
end
noncomputable def del(F:Hp)(l:BF):Hp:=λb=>if b=l then none else F b
theorem vQ{l b:BF}(h:b≠l):del F l b=F b:=by unfold del;rw[if_neg h]
theorem aBe{l:BF}:del F l l=none:=by unfold del;rw[if_pos rfl]
mutual
theorem Rep.del{K:aA}{F:Hp}{l:BF}{xs:List V}(hl:F l=some (.lst xs)):∀ {d:D}{v:V},noL d=true->Rep K F d v->Rep K (del F l) d v
 |.non,_,_,r=>by simpa only[Rep] using r
 |.bl _,_,_,r=>by simpa only[Rep] using r
 |.int _,_,_,r=>by simpa only[Rep] using r
 |.str _,_,_,r=>by simpa only[Rep] using r
 |.tup ds,v,h,r=>by
  simp only[Rep] at r ⊢;obtain⟨a,ys,e,q,rl⟩:=r
  have ne:a≠l:=λz=>by rw[z,hl] at q;cases q
  exact⟨a,ys,e,by rw[vQ ne];exact q,RepL.del hl (by simpa only[noL] using h) rl⟩
 |.lst _,_,h,_=>by simp[noL] at h
 |.dic,_,h,_=>by simp[noL] at h
 |.dki _ _,_,h,_=>by simp[noL] at h
 |.any _,_,h,_=>by simp[noL] at h
 |.scr _,_,h,_=>by simp[noL] at h
theorem RepL.del{K:aA}{F:Hp}{l:BF}{xs:List V}(hl:F l=some (.lst xs)):∀ {ds:List D}{ys:List V},aLf ds=true->RepL K F ds ys->RepL K (del F l) ds ys
 |[],_,_,r=>by simpa only[RepL] using r
 |d::ds,ys,h,r=>by simp only[aLf,bO] at h;obtain⟨y,zs,rfl,a,rl⟩:=r.uncons;exact .cons (Rep.del hl h.1 a)<|RepL.del hl h.2 rl
end
theorem aAP{K:aA}{F H:Hp}:∀ {sd:List Slot}{σ:St},σ.length=sd.length->(∀ (k:Nat) (z:Slot),sd[k]? =some z->∃o,σ[k]? =some o/\dM K F H z o)->SlotsOk K F H sd σ
 |[],[],_,_=>rfl
 |z::zs,o::r,hl,h=>by
  obtain⟨o',e,q⟩:=h 0 z rfl;have:o=o':=by simpa using e
  subst this
  exact ⟨o,r,rfl,q,aAP (by simpa using hl) fun k z hz=>by
   obtain⟨o',e,q⟩:=h (k+1) z (by simpa using hz)
   exact⟨o',by simpa using e,q⟩⟩
 |[],_::_,hl,_=>by simp at hl
 |_::_,[],hl,_=>by simp at hl
noncomputable def okS:Slot->Bool
 |.own _ ds=>aLf ds
 |.od _ _ ds=>aLf ds
 |.ox _ _=>false
 |_=>true
def Oth(sd:List Slot)(i:Nat):Prop:=∀ (k:Nat) (z:Slot),k≠i->sd[k]? =some z->okS z=true
variable {i:Nat}{l:BF}{xs:List V}
theorem StF.lend(S:StF K H₀ F H σ sd)(hs:sd[i]? =some (.own l ds))(hx:H l=some (.lst xs)):StF K H₀ (upd F l<|.lst xs) H σ (sd.set i (.val<|.lst ds)):=by obtain⟨o,h1,h2,n,ys,q,rl⟩:=S.slots.get hs;rw[hx] at q;cases q;have S0:=S.le<|gB sd i;obtain⟨S1,s1⟩:=S0.freeze hx n<|rP S.nd hs;have S2:=S1.set (d:=.lst ds) (v:=.ref l) i (by simp only[Rep];exact⟨l,xs,rfl,bJ,rl.mono s1⟩);rw[jF,lF<|by rw[h1,h2]] at S2;exact S2
theorem StF.back(S:StF K H₀ F H σ sd)(hs:sd[i]? =some (.own l ds))(hx:H l=some (.lst xs))(ho:Oth sd i)(S':StF K H₀ F' H' σ (sd.set i (.val<|.lst ds)))(s:Same (upd F l<|.lst xs) F'):StF K H₀ (del F' l) H' σ sd/\Same F (del F' l)/\F' l=some (.lst xs):=by
 obtain⟨o,h1,h2,n,ys,q,rl⟩:=S.slots.get hs;rw[hx] at q;cases q;have fl:F' l=some (.lst xs):=s _ _ bJ
 have sF:Same F (del F' l):=λb u e=>by have ne:b≠l:=cC e n;rw[vQ ne];exact s _ _ (by rw[aR ne];exact e)
 refine⟨⟨λb u e=>sF _ _<|S.base _ _ e,λb u e=> ?_,S'.smp, ?_,S.nd⟩,sF,fl⟩
 ·by_cases h:b=l
  ·subst h;rw[aBe] at e;cases e
  ·rw[vQ h] at e;exact S'.sub _ _ e
 ·refine aAP S.slots.len λk z hz=> ?_
  by_cases hk:k=i
  ·subst hk;rw[hs] at hz;cases hz;exact⟨o,h1,h2,aBe,xs,S'.sub _ _ fl,rl.mono sF⟩
  ·obtain⟨o1,g1,g2⟩:=S.slots.get hz;obtain⟨o2,g3,g4⟩:=S'.slots.get (i:=k) (z:=z) (by rw[iE<|Ne.symm hk];exact hz);rw[g1] at g3;cases g3;refine⟨o1,g1, ?_⟩;cases z with
   |un=>trivial
   |val d=>obtain⟨v,e,r⟩:=g2;exact⟨v,e,r.mono sF⟩
   |gh d G=>obtain⟨v,e,r,g⟩:=g2;exact⟨v,e,r.mono sF,λF2 s2=>g F2<|sF.trans s2⟩
   |own l' ds'=>
    obtain⟨e,n',ys,q',rl'⟩:=g4
    have ne:l'≠l:=λe2=>by rw[e2,fl] at n';cases n'
    exact⟨e,by rw[vQ ne];exact n',ys,q',RepL.del fl (ho k _ hk hz) rl'⟩
   |od l' ks ds'=>
    obtain⟨e,n',ys,q',ln,rl'⟩:=g4
    have ne:l'≠l:=λe2=>by rw[e2,fl] at n';cases n'
    exact⟨e,by rw[vQ ne];exact n',ys,q',ln,RepL.del fl (ho k _ hk hz) rl'⟩
   |ox ls G=>exact absurd (ho k _ hk hz) (by simp[okS])
theorem PTd.lend(i:Nat){k:Bool}(hs:sd[i]? =some (.own l ds))(ho:Oth sd i)(h:PTd X (sd.set i (.val<|.lst ds)) e k):PTd X sd e k:=.mk λσ F H S=>by
 obtain⟨o,h1,h2,n,xs,q,rl⟩:=S.slots.get hs;refine(h σ _ H<|S.lend hs q).imp λv H' ⟨e,F',S',s'⟩=> ?_
 obtain⟨S2,s2,fl⟩:=S.back hs q ho S' s';exact⟨e,del F' l,S2,s2⟩
theorem PTd.cast{k k':Bool}(h:PTd X sd e k)(q:k=k'):PTd X sd e k':=q▸h
noncomputable def aOl:List Slot->Nat->Bool
 |[],_=>true
 |_::zs,0=>zs.all okS
 |z::zs,i+1=>okS z&&aOl zs i
theorem aLY:∀ {sd:List Slot}{i:Nat},aOl sd i=true->Oth sd i
 |[],_,_,k,y,_,hz=>by simp at hz
 |z::zs,0,h,k,y,hk,hz=>by
  cases k with
  |zero=>exact absurd rfl hk
  |succ k=>exact iL.mp (show zs.all okS=true from h) _ (aY<|by simpa using hz)
 |z::zs,i+1,h,k,y,hk,hz=>by
  have h':(okS z&&aOl zs i)=true:=h;rw[bO] at h';cases k with
  |zero=>
   have:z=y:=by simpa using hz
   subst this;exact h'.1
  |succ k=>exact aLY h'.2 k y (λq=>hk<|by rw[q]) (by simpa using hz)
theorem aEv(hc:X.calm=true):mL X (.builtin "sum") (λxs H Q=>∃ (a:BF) (ns:List Int),xs=[.ref a]/\SqL X.K H a (ns.map V.int)/\Q (.int<|preSum (λi=>ns.getD i 0) ns.length) H):=by
 intro pins s σ H xs us Q I r h;obtain⟨a,ns,rfl,ha,q⟩:=h;obtain⟨u,rfl,ru⟩:=pG r;cases ru;obtain⟨its,rv,p,hz⟩:=I.list ha;have hl:=rv.length;rw[aC] at hl;have isl:s.heap.IsList a its.toArray:=p.isList;have alt:a<s.heap.objs.size:=by obtain⟨o,ho,_⟩:=isl;exact aP ho
 refine call_sum_walkAnyS<|wpAny_pyIter_list isl ?_;refine⟨s.heap.objs.size,_,_,_,its.toArray.size,_,_,λi=>ns.getD i 0,rfl,(Walks.list (A:=X.A.in1) (I.ok.hd hc) s.heap.objs.size a (bQ alt) its.toArray).toS,⟨⟨_,bN _ rfl,rfl,rfl⟩,isl.push _⟩,λb hb=> ?_,λi v hv=>(aKD rv<|by simpa using hv).2,λs' t' hm=> ?_⟩
 ·show b<(s.heap.push _).objs.size;rw[size_push']
  rcases bA.mp hb with e|hb
  ·rw[e];exact gG _
  ·have e:b=a:=by simpa using hb
   rw[e];exact mR alt
 ·rw[Moved.eq_with hm];have sz:its.toArray.size=ns.length:=by rw[bC,hl]
  rw[sz];refine⟨.int _,H,I.kept λb o g=>hm.heap b o (λhI=> ?_)<|aF _ g,⟨_,rfl⟩,q⟩;have e:b=s.heap.objs.size:=by simpa using hI
  exact absurd (aP g) (by rw[e];exact eD _)
theorem aKo{p:Pos}{ns:List Int}(hg:Gl X "sum")(hm:X.mg "sum"=none)(ha:PEd X sd e (.bor<|ns.map D.int))(hc:X.calm=true:=by rfl)(hst:AB [e] X.env=(false,eval e X.env)::AB [] X.env:=by rfl):PEd X sd (.Call (.Name "sum" p) [e] [] pos) (.val (.int<|preSum (λi=>ns.getD i 0) ns.length)):=
 nR (he:=hst) (aEv hc) hg hm boot_sum (aB ha aM trivial hst) λσ F H vs Q S q k=>by
  cases q with
  |cons q1 q2=>cases q2;obtain⟨p,xs,rfl,hp,rl,_⟩:=q1;exact⟨p,ns,rfl,.of (by rw[<-rl.ints];exact hp),k _ F H S (Same.refl _)<|by simp only[ResOk,Rep]⟩
def aIZ:List D->R->Prop:=λds r=>∃ (ns:List Int) (k:Nat),ds=[.scr ns,.int (k:Int)]/\k<=1000/\r=.val (.int<|ns.getD k 0)
noncomputable abbrev SQ:=Nat×Int×Int×Int
noncomputable def sqD(q:SQ):D:=kB q.1 q.2.1 q.2.2.1 q.2.2.2
noncomputable def sK(p:Int×Int)(x:Int):SQ:=((x%10).toNat,x / 10%p.2,x / 60%p.2,x / 360%((2^p.1.toNat:Nat):Int))
structure sQ(p:Int×Int)(q:SQ):Prop where
 sz:p∈bW
 k10:q.1<10
 i0:0<=q.2.1/\q.2.1<p.2
 j0:0<=q.2.2.1/\q.2.2.1<p.2
 n0:0<=q.2.2.2/\q.2.2.2<((2^p.1.toNat:Nat):Int)
theorem pw0(n:Nat):(0:Int)<((2^n:Nat):Int):=by have:0<2^n:=Nat.pow_pos (by decide);generalize 2^n=q at this ⊢;omega
theorem aKq{p:Int×Int}(hp:p∈bW)(x:Int):sQ p (sK p x):=by
 obtain⟨h1,h2,h3,h4,h5⟩:=vZ p hp;have p20:(0:Int)<p.2:=by omega
 have m0:=pw0 p.1.toNat;have d1:=cS x (show(0:Int)<10 by decide);exact⟨hp,by show(x%10).toNat<10;omega,⟨cZ _<|iS p20,cS _ p20⟩,⟨cZ _<|iS p20,cS _ p20⟩,⟨cZ _<|iS m0,cS _ m0⟩⟩
def aHV:List D->R->Prop:=λds r=>∃x p,p∈bW/\ds=[.int x,cJ p]/\r=.val (sqD<|sK p x)
noncomputable abbrev SK:=SQ×Int
noncomputable def skD(s:SK):D:=.tup [sqD s.1,.int s.2]
structure StkOk(p:Int×Int)(L:List SK):Prop where
 pos:0<L.length
 le:L.length<=8
 st:∀s∈L,sQ p s.1/\1<=s.2/\s.2<=9
structure Fil(p:Int×Int)(ws:List Int):Prop where
 len:ws.length=p.2.toNat
 wd:∀w∈ws,0<=w/\w<((2^p.1.toNat:Nat):Int)
noncomputable def nwQ(p:Int×Int)(q:SQ)(ws:List Int):Int:=newW q.1 ((2^p.1.toNat:Nat):Int) (ws.getD q.2.1.toNat 0) (ws.getD q.2.2.1.toNat 0) q.2.2.2
noncomputable def onQ(p:Int×Int)(q:SQ)(ws:List Int):List Int:=ws.set q.2.1.toNat<|nwQ p q ws
noncomputable def gN(p:Int×Int)(L:List SK)(row:List Nat)(ws:List Int):List Int:=row.foldl (λf t=>onQ p (L.getD t AQ).1 f) ws
theorem aJI{p:Int×Int}{q:SQ}{ws:List Int}(O:sQ p q)(G:Fil p ws):0<=nwQ p q ws/\nwQ p q ws<((2^p.1.toNat:Nat):Int):=by obtain⟨h1,h2,h3,h4,h5⟩:=vZ p O.sz;exact aGn (by omega) O.k10 (G.wd _ (getD_mem<|by have:=O.i0;rw[G.len];omega)) (G.wd _ (getD_mem<|by have:=O.j0;rw[G.len];omega)) O.n0
theorem tP{p:Int×Int}{q:SQ}{ws:List Int}(O:sQ p q)(G:Fil p ws):Fil p (onQ p q ws):=by
 refine⟨by unfold onQ;rw[aLj];exact G.len,λw hw=> ?_⟩
 rcases List.mem_or_eq_of_mem_set hw with hw|rfl
 ·exact G.wd w hw
 ·exact aJI O G
theorem nN{p:Int×Int}{L:List SK}(S:StkOk p L):∀ (row:List Nat) (ws:List Int),(∀t∈row,t<L.length)->Fil p ws->Fil p (gN p L row ws)
 |[],ws,_,G=>G
 |t::row,ws,h,G=>by have ht:=h t aG;exact nN S row _ (λu hu=>h u<|aE _ hu)<|tP (S.st _<|getD_mem ht).1 G
theorem aEG(p:Int×Int)(L:List SK)(row:List Nat)(t:Nat)(ws:List Int):gN p L (row++[t]) ws=onQ p (L.getD t AQ).1 (gN p L row ws):=by unfold gN;rw[fG];rfl
theorem lJ{p:Int×Int}(hp:p∈bW){ws:List Int}(h:ws∈gO (2^p.1.toNat) p.2.toNat):Fil p ws:=by
 have g:∀ (m k:Nat),∀s∈gO m k,s.length=k/\∀x∈s,0<=x/\x<(m:Int):=λm k=>by
  induction k with
  |zero=>
   intro s h;have:s=[]:=by simpa[gO] using h
   subst this;exact⟨rfl,λx hx=>by cases hx⟩
  |succ k ih=>
   intro s h;obtain⟨t,ht,hs⟩:=dU.mp h;obtain⟨w,hw,rfl⟩:=aQ.mp hs;obtain⟨a,b⟩:=ih t ht;refine⟨by rw[aN,a];rfl,λx hx=> ?_⟩
   rcases aU.mp hx with hx|hx
   ·exact b x hx
   ·have e:x=(w:Int):=by simpa using hx
    have:=cU.mp hw;omega
 obtain⟨a,b⟩:=g _ _ ws h;exact⟨a,b⟩
noncomputable def bT(row:List Nat):List D:=row.map λ(t:Nat)=>D.int (t:Int)
noncomputable def sL(L:List SK)(row:List Nat):List Int:=row.map λt=>(L.getD t AQ).2
noncomputable def sM(l:List Int):Int:=preSum (λi=>l.getD i 0) l.length
def aAH:List D->R->Prop:=λds r=>∃ (L:List SK) (row:List Nat),(∀t∈row,t<L.length)/\row.length<=500/\ds=[.lst<|L.map skD,.tup<|bT row]/\r=.val (.int (sM<|sL L row))
theorem wJ{f g:Nat->Int}:∀n,(∀i,i<n->f i=g i)->preSum f n=preSum g n
 |0,_=>rfl
 |n+1,h=>by show preSum f n+f n=preSum g n+g n;rw[wJ n λi hi=>h i<|by omega,h n<|by omega]
theorem aFd(l:List Int)(x:Int):sM (l++[x])=sM l+x:=by unfold sM;rw[aN];show preSum _ l.length+_=_;rw[wJ (g:=λi=>l.getD i 0) l.length λi hi=>by simp[cK,dX hi]];simp[cK]
theorem aNx{d1 d2:D}{x y:V}{k:Bool}(ha:PEd X sd a (.val d1))(hb:PEd X sd b (.val d2))(h1:flt d1=some x)(h2:flt d2=some y)(hs:aLu x y=true)(hk:decide (x=y)=k):PEd X sd (.Compare a [.Eq] [b] pos) (.val<|.bl k):=
 tJ aLI ha hb trivial (iH _) λσ F H v u Q S q1 q2 kk=>by have e1:=lM h1 q1;have e2:=lM h2 q2;subst e1 e2;exact⟨hs,by rw[hk];exact kk F H S<|Same.refl _⟩
theorem wX{p:Pos}(hg:Gl X "list")(hm:X.mg "list"=none)(ha:PEd X sd e (.bor ds))(hst:AB [e] X.env=(false,eval e X.env)::AB [] X.env:=by rfl):PEd X sd (.Call (.Name "list" p) [e] [] pos) (.own ds):=
 xW (he:=hst) aAa hg hm PyProof.Rows.boot_list (aB ha aM trivial hst) λσ F H vs Q S q k=>by
  cases q with
  |cons q1 q2=>cases q2;obtain⟨p,xs,rfl,hp,rl,_⟩:=q1;refine⟨p,xs,rfl,.inl<|.of hp,λl hl=> ?_⟩;obtain⟨S2,fp,no⟩:=S.layO (xs:=xs) hl;exact k _ F _ S2 (Same.refl _) ⟨l,xs,rfl,fp,bJ,rl,no⟩
mutual
theorem uJ:∀d:D,pl d=true->deq d d=true
 |.non,_=>rfl
 |.bl b,_=>by simp[deq]
 |.int i,_=>by simp[deq]
 |.str x,_=>by simp[deq]
 |.tup ds,h=>by simp only[deq];exact rK ds (by simpa only[pl] using h)
 |.lst ds,h=>by simp only[deq];exact rK ds (by simpa only[pl] using h)
 |.dic,h=>by simp[pl] at h
 |.dki _ _,h=>by simp[pl] at h
 |.any _,h=>by simp[pl] at h
 |.scr _,h=>by simp[pl] at h
theorem rK:∀ds:List D,plL ds=true->lZ ds ds=true
 |[],_=>rfl
 |d::ds,h=>by simp only[plL,bO] at h;simp only[lZ,bO];exact⟨uJ d h.1,rK ds h.2⟩
end
theorem aDP{row:List Nat}{k:Nat}(h:(bT row)[k]? =some d):k<row.length/\d=.int ((row.getD k 0:Nat):Int):=by
 unfold bT at h;rw[aZ] at h;cases e:row[k]? with
 |none=>rw[e] at h;cases h
 |some z=>rw[e] at h;refine⟨(aD.mp e).1, ?_⟩;rw[<-bM.inj h,cK,e];rfl
theorem aIh{L:List SK}{t:Nat}(h:t<L.length):(L.map skD)[t]? =some (skD<|L.getD t AQ):=by rw[aZ];simp[cK,h]
theorem aGx{row:List Nat}{k:Nat}(h:k<row.length):row.take (k+1)=row.take k++[row.getD k 0]:=by rw[eP];simp[cK,h]
theorem sG(L:List (List Int))(m:Nat):(L.flatMap λs=>(bR m).map λ(w:Nat)=>s++[(w:Int)]).length=L.length*m:=by
 induction L with
 |nil=>simp
 |cons s L ih=>rw[List.flatMap_cons,aN,ih,aC,fH,bD,aPE,Nat.add_comm]
theorem zU:∀ (m k:Nat),(gO m k).length=m^k
 |_,0=>rfl
 |m,k+1=>by show((gO m k).flatMap _).length=_;rw[sG,zU m k,Nat.pow_succ]
theorem aBC:∀ (m k:Nat),∀s∈gO m k,s.length=k
 |_,0,s,h=>by
  have:s=[]:=by simpa[gO] using h
  subst this;rfl
 |m,k+1,s,h=>by obtain⟨t,ht,hs⟩:=dU.mp h;obtain⟨w,_,rfl⟩:=aQ.mp hs;rw[aN,aBC m k t ht];rfl
theorem aFa:∀p∈bW,∀k,k<p.2.toNat->((2^p.1.toNat)^k)*2^p.1.toNat<=900:=by decide+kernel
noncomputable def tabQ(p:Int×Int)(L:List SK)(row:List Nat):List (List Int):=(gO (2^p.1.toNat) p.2.toNat).map λws=>gN p L row ws
def aDl:List D->R->Prop:=λds r=>∃p L row,p∈bW/\StkOk p L/\(∀t∈row,t<L.length)/\ds=[cJ p,.lst<|L.map skD,.tup<|bT row]/\r=.val (.tup<|(tabQ p L row).map bP)
theorem aHs(p:Int×Int)(L:List SK)(row:List Nat):(tabQ p L row).length=(gO (2^p.1.toNat) p.2.toNat).length:=aC _
theorem kM{p:Int×Int}(hp:p∈bW):(gO (2^p.1.toNat) p.2.toNat).length<=64:=by
 have:∀p∈bW,(2^p.1.toNat)^p.2.toNat<=64:=by decide+kernel
 rw[zU];exact this p hp
theorem wN{L:List (List Int)}(h:d∈L.map bP):∃ws∈L,d=bP ws:=by obtain⟨ws,hw,rfl⟩:=aQ.mp h;exact⟨ws,hw,rfl⟩
theorem aGs{p:Int×Int}(hp:p∈bW){L:List SK}(S:StkOk p L){row:List Nat}(h:∀t∈row,t<L.length):∀ws∈tabQ p L row,Fil p ws:=λws hw=>by obtain⟨v,hv,rfl⟩:=aQ.mp hw;exact nN S row v h<|lJ hp hv
noncomputable def kA:D->List Int
 |.tup ds=>ds.map λd=>match d with | .int i=>i|_=>0
 |_=>[]
theorem gW(ws:List Int):kA (bP ws)=ws:=by
 show(ws.map D.int).map _=ws;rw[aV]
 induction ws with
 |nil=>rfl
 |cons w ws ih=>rw[aW,ih];rfl
noncomputable def isN:D->Bool
 |.non=>true
 |_=>false
theorem aAh(h:Rep K H d v):decide (v=.non)=isN d:=by
 cases d with
 |non=>simp only[Rep] at h;subst h;rfl
 |bl=>simp only[Rep] at h;subst h;rfl
 |int=>simp only[Rep] at h;subst h;rfl
 |str=>simp only[Rep] at h;subst h;rfl
 |tup=>simp only[Rep] at h;obtain⟨a,xs,rfl,_⟩:=h;rfl
 |lst=>simp only[Rep] at h;obtain⟨a,xs,rfl,_⟩:=h;rfl
 |dic=>simp only[Rep] at h;obtain⟨a,rfl,_⟩:=h;rfl
 |dki=>simp only[Rep] at h;obtain⟨a,xs,rfl,_⟩:=h;rfl
 |any=>simp only[Rep] at h;obtain⟨⟨a,rfl⟩,_⟩:=h;rfl
 |scr=>simp only[Rep] at h;obtain⟨a,rfl,_⟩:=h;rfl
theorem tS(ha:PEd X sd a (.val d))(hb:PEd X sd b (.val .non)):PTd X sd (.Compare a [.Is] [b] pos) (isN d):=
 kZ aIa ha hb trivial (iH _) λσ F H v u Q S q1 q2 k=>by simp only[ResOk,Rep] at q2;have q1:Rep _ _ _ _:=q1;exact⟨q2,by rw[aAh q1];exact k F H S<|Same.refl _⟩
theorem aBt(ha:PEd X sd a (.val d))(hb:PEd X sd b (.val .non)):PTd X sd (.Compare a [.IsNot] [b] pos) (!isN d):=
 kZ aJg ha hb trivial (iH _) λσ F H v u Q S q1 q2 k=>by simp only[ResOk,Rep] at q2;have q1:Rep _ _ _ _:=q1;exact⟨q2,by rw[aAh q1];exact k F H S<|Same.refl _⟩
theorem aMf(ha:PEd X sd a (.val d))(hb:PEd X sd b (.val .non)):PEd X sd (.Compare a [.Is] [b] pos) (.val (.bl<|isN d)):=
 tJ aIa ha hb trivial (iH _) λσ F H v u Q S q1 q2 k=>by simp only[ResOk,Rep] at q2;have q1:Rep _ _ _ _:=q1;exact⟨q2,by rw[aAh q1];exact k F H S<|Same.refl _⟩
theorem pY{p p2 q2:Pos}{n:Nat}(hg:Gl X "list")(hm:X.mg "list"=none)(hg2:Gl X "range")(hm2:X.mg "range"=none)(ha:PEd X sd e (.val<|.int (n:Int)))(h1:n<=10000)
  (hc:X.calm=true:=by rfl) (hst:AB [e] X.env=(false,eval e X.env)::AB [] X.env:=by rfl) (hst2:AB [.Call (.Name "range" p2) [e] [] q2] X.env=(false,eval (.Call (.Name "range" p2) [e] [] q2) X.env)::AB [] X.env:=by rfl):
  PEd X sd (.Call (.Name "list" p) [.Call (.Name "range" p2) [e] [] q2] [] pos) (.own<|gX 0 n):=.mk λσ F H S pins s I=>by
 refine AR<|lW I hg hm PyProof.Rows.boot_list ?_;refine PyProof.Rows.callWith_type1 ?_ hst2 rfl;rw[hst2];refine Calls.spliced_cons (AR<|lW I hg2 hm2 boot_range ?_);refine PyProof.Rows.callWith_type1 (thn ((cY (te:=wE X e) eR pa_nil hst) q2 pins s σ H (λus H1=>∃v F1,us=[v]/\StF X.K X.B₀ F1 H1 σ sd/\Same F F1/\ResOk X.K F1 H1 sd (.val<|.int (n:Int)) v) I<|(ha σ F H S).imp λv H1 ⟨F1,S1,s1,q1⟩=>⟨v,F1,rfl,S1,s1,q1⟩) λus s1 hus=> ?_) hst rfl;obtain⟨ws,H1,I1,rv,v,F1,rfl,S1,sF,q1⟩:=hus;obtain⟨u,rfl,ru⟩:=pG rv;simp only[ResOk,Rep] at q1;subst q1;obtain⟨t,rfl⟩:=ru;refine call_range_1<|Calls.spliced_nil ?_;have hr:IsRange (s1.heap.push {cls:=.type "range",data:=.fields #[.int 0 s1.toks,.int (n:Int) t,.int 1<|s1.toks+1]}) s1.heap.objs.size 0 (n:Int) 1 s1.toks t (s1.toks+1):=IsRange.new ..
 have sz:Builtin.Range.rangeSize 0 (n:Int) 1=(n:Int):=by
  rw[rangeSize_one]
  split<;>omega
 refine call_list_range (I1.ok.hd hc) hr (small_one (by omega) (by omega) (by omega)<|by omega) sz (by omega) λh' tk acc c' kp g it=> ?_
 have kp2:∀b o,s1.heap.get? b=some o->h'.get? b=some o:=λb o g=>kp b o<|aF _ g
 have le:s1.heap.objs.size<=(s1.heap.push {cls:=.type "range",data:=.fields #[.int 0 s1.toks,.int (n:Int) t,.int 1<|s1.toks+1]}).objs.size:=by rw[size_push'];exact gM _
 generalize (s1.heap.push {cls:=.type "range",data:=.fields #[.int 0 s1.toks,.int (n:Int) t,.int 1<|s1.toks+1]}).objs.size=dd at g le;have hD:H1 dd=none:=I1.hok.fresh le;have ln:acc.toList.length=n:=by rw[cO];exact it.1
 have vl:Vals ((bR n).map λ(k:Nat)=>V.int<|0+(k:Int)) acc.toList:=by
  have g:∀ (l:List BD) (f:Nat->Int),(∀ (j:Nat) (v:BD),l[j]? =some v->∃t,v=.int (f j) t)->Vals ((bR l.length).map λ(k:Nat)=>V.int<|f k) l:=λl=>by
   induction l with
   |nil=>intro f _;exact .nil
   |cons x l ih=>intro f h;obtain⟨t,e⟩:=h 0 x rfl;rw[bD,aCy,aW,aV];exact .cons ⟨t,e⟩ (ih (λk=>f<|k+1) λj v hv=>h (j+1) v<|by simpa using hv)
  have:=g acc.toList (λk=>0+(k:Int)) λj v hv=>by obtain⟨t,e⟩:=it.2 j v (by rw[<-dE];exact hv);exact⟨t,by rw[e];congr 1;omega⟩
  rw[ln] at this;exact this
 have I3:Inv X pins σ (upd H1 dd<|.lst ((bR n).map λ(k:Nat)=>V.int<|0+(k:Int))) {s1 with heap:=h',toks:=tk}:=
  I1.laid kp2 le ⟨by rw[aC,fH];exact dA<|eV h1,acc.toList,c',vl,by simpa using g⟩
 obtain⟨S4,fp,no⟩:=S1.layO (xs:=(bR n).map λ(k:Nat)=>V.int<|0+(k:Int)) hD;refine⟨.ref dd,_,I3,rfl,F1,S4,sF,dd,_,rfl,fp,bJ, ?_,no⟩
 have gg:∀ks:List Nat,RepL X.K F1 (ks.map λ(k:Nat)=>D.int<|0+(k:Int)) (ks.map λ(k:Nat)=>V.int<|0+(k:Int)):=λks=>by
  induction ks with
  |nil=>exact .nil
  |cons k ks ih=>exact .cons (by simp only[Rep]) ih
 exact gg _
noncomputable def bV(p:Int×Int):List (List Int):=gO (2^p.1.toNat) p.2.toNat
noncomputable def aNE:Option (List Int)->D
 |none=>.non
 |some ws=>bP ws
noncomputable def lkD:Option (List Nat)->D
 |none=>.non
 |some l=>.lst<|bT l
noncomputable def bxQ(n:Nat):Option (List Nat)->List Nat
 |none=>bR n
 |some l=>l
structure xY(p:Int×Int)(T:List (List Int)):Prop where
 len:T.length=(bV p).length
 fil:∀ws∈T,Fil p ws
def aLa(p:Int×Int)(o:Option (List Nat)):Prop:=∀l,o=some l->l.length<=100/\∀b∈l,b<p.2.toNat
theorem aOv{p:Int×Int}(hp:p∈bW){o:Option (List Nat)}(h:aLa p o):(bxQ p.2.toNat o).length<=100/\∀b∈bxQ p.2.toNat o,b<p.2.toNat:=by
 cases o with
 |none=>obtain⟨h1,h2,h3,h4,h5⟩:=vZ p hp;exact⟨by show(bR _).length<=100;rw[fH];omega,λb hb=>cU.mp hb⟩
 |some l=>exact h l rfl
def aCX:List D->R->Prop:=λds r=>∃p o,p∈bW/\ds=[cJ p,lkD o]/\r=.own (bT<|bxQ p.2.toNat o)
def aAS:List D->R->Prop:=λds r=>∃ (bs:List Nat) (ws:List Int),bs.length<=100/\(∀b∈bs,b<ws.length)/\ds=[.lst<|bT bs,bP ws]/\r=.own ((bs.map λj=>ws.getD j 0).map D.int)
theorem oM(n:Nat):gX 0 n=bT (bR n):=by
 unfold gX bT;refine cF λk _=> ?_
 rw[sW]
theorem aDT{V:List (List Int)}{k:Nat}(h:k<V.length):(V.map bP)[k]? =some (bP<|V.getD k []):=by simp[cK,h]
theorem yD{α:Type}{L:List α}{k:Nat}(d:α)(h:k<L.length):L.take (k+1)=L.take k++[L.getD k d]:=by rw[eP];simp[cK,h]
theorem aES(d:D)(ds:List D)(p1:pl d=true)(p2:plL ds=true)(hu:X.A.units+1+lA ds<AS):OpR X (AW .NotIn) (λx y H Q=>Rep X.K H (.lst ds) y/\Rep X.K H d x/\Q (.bl<|!ds.any λz=>deq z d) H):=by
 intro pins s σ H x y v u Q I rx ry h;obtain⟨hl,hd,k⟩:=h;obtain⟨a,xs,its,rfl,rfl,rl,rv,ht⟩:=lV I.hok hl ry
 have hat:∀ (j:Nat) (w:BD),its[j]? =some w->∃z v,ds[j]? =some z/\xs[j]? =some v/\Rep X.K H z v/\RelV v w:=λj w hw=>by
  have hj:j<its.length:=(aD.mp hw).1;have hx:j<xs.length:=by rw[Vals.length rv];exact hj
  have hd:j<ds.length:=by rw[<-rl.len];exact hx
  obtain⟨v,hv,rz⟩:=rl.get (i:=j) (d:=ds[j]) (by simp[hd])
  exact ⟨ds[j],v,by simp [hd],hv,rz,by
   have:=rv.get hv;obtain⟨w',hw',r⟩:=this;rw[hw] at hw';cases hw'
   exact r⟩
 have dc:=λw:BD=>Classical.propDecidable (∃ (j:Nat) (z:D),its[j]? =some w/\ds[j]? =some z/\deq z d=true)
 refine SeqAt.notIn_listAt (λw=> @decide _<|dc w) ht (λw hw=> ?_) ⟨.bl _,H,I,rfl, ?_⟩
 ·by_cases q:∃ (j:Nat) (z:D),its[j]? =some w/\ds[j]? =some z/\deq z d=true
  ·obtain⟨j,z,e1,e2,e3⟩:=q;obtain⟨z',v,f1,f2,f3,f4⟩:=hat j w e1;rw[e2] at f1;cases f1;have: @decide _ (dc w)=true:=by rw[decide_eq_true_eq];exact⟨j,z,e1,e2,e3⟩
   rw[this,<-e3];exact rN I.hok z (qW p2 e2) p1 f3 hd f4 rx (by have:=nL e2;show X.A.units+1+dep z<AS;omega)
  ·have hw':w∈its:=by simpa using hw
   obtain⟨j,hj,rfl⟩:=eU hw';obtain⟨z,v,f1,f2,f3,f4⟩:=hat j its[j] (by simp[hj])
   have e3:deq z d=false:=by
    cases h:deq z d with
    |false=>rfl
    |true=>exact(q ⟨j,z,by simp[hj],f1,h⟩).elim
   have: @decide _ (dc its[j])=false:=by rw[decide_eq_false_iff_not];exact q
   rw[this,<-e3];exact rN I.hok z (qW p2 f1) p1 f3 hd f4 rx (by have:=nL f1;show X.A.units+1+dep z<AS;omega)
 ·have e:its.toArray.any (λw=> @decide _<|dc w)=ds.any λz=>deq z d:=by
   rw[gQ,aKS,jX,jX]
   constructor
   ·rintro⟨w,hw,q⟩;rw[decide_eq_true_eq] at q;obtain⟨j,z,e1,e2,e3⟩:=q;exact⟨z,aY e2,e3⟩
   ·rintro⟨z,hz,e3⟩;obtain⟨j,hj,rfl⟩:=eU hz;have hi:j<its.length:=by rw[<-Vals.length rv,rl.len];exact hj
    exact⟨its[j],iM hi,by rw[decide_eq_true_eq];exact⟨j,ds[j],by simp[hi],by simp[hj],e3⟩⟩
  rw[e];exact k
theorem aBm(ha:PEd X sd a (.val d))(hb:PEd X sd b (.val<|.lst ds))(p1:pl d=true)(p2:plL ds=true)(hu:X.A.units+1+lA ds<AS)(hk:AU .NotIn b=false:=by with_unfolding_all rfl):PTd X sd (.Compare a [.NotIn] [b] pos) (!ds.any λz=>deq z d):=
 kZ (aES d ds p1 p2 hu) ha hb trivial hk λσ F H x u Q S q1 q2 k=>⟨Rep.mono S.sub q2,Rep.mono S.sub q1,k F H S<|Same.refl _⟩
noncomputable def aLg(c:Int)(k:Nat):Int:=(c%2147483647*48271+(k:Int)*(k:Int)*69621+7919)%2147483647
noncomputable def lX(c:Int)(k:Nat):Int:=if c%2=1 then c / 2 else(aLg c k*aLg c k+16807*aLg c k+(k:Int))%2147483629
def aDe:List D->R->Prop:=λds r=>∃ (c:Int) (k:Nat),ds=[.int c,.int (k:Int)]/\k<=1000/\r=.val (.int<|lX c k)
theorem aHo(c:Int)(k:Nat):0<=aLg c k/\aLg c k<2147483647:=⟨cZ _<|by decide,cS _<|by decide⟩
theorem aNb{τ:List Nat}{b:Nat}(h:b<τ.length):(bT τ)[b]? =some (.int ((τ.getD b 0:Nat):Int)):=by unfold bT;rw[aZ];simp[cK,h]
theorem aEd{k:Nat}{q:Nat}{p:Pos}(hb:PEd X sd b (.val<|.int (k:Int)))(hk:k<=1000):PEd X sd (.BinOp (.Constant (.int 1) q p) .LShift b pos) (.val<|.int ((2^k:Nat):Int)):=
 PEd.ic (dR aNw cE hb ⟨by omega,by omega,by decide⟩) (by rw[Int.one_mul,dJ];push_cast;rfl)
noncomputable def ktN(p:Int×Int)(ns:List Int)(st:Nat)(d:Int):Nat->List SK
 |0=>[]
 |t+1=>if((ktN p ns st d t).map skD |>.map fstQ).any (λz=>deq z (sqD<|sK p (lX (ns.getD (st+t) 0)<|t+1))) then ktN p ns st d t else ktN p ns st d t++[(sK p (lX (ns.getD (st+t) 0)<|t+1),1+lX (ns.getD (st+t) 0) (t+1) / 10^6%d)]
where
 fstQ:D->D
  |.tup (x::_)=>x
  |_=>.non
theorem aCZ{p:Int×Int}(hp:p∈bW)(ns:List Int)(st:Nat){d:Int}(h1:1<=d)(h9:d<=9):∀t,(ktN p ns st d t).length<=t/\(0<t->0<(ktN p ns st d t).length)/\∀s∈ktN p ns st d t,sQ p s.1/\1<=s.2/\s.2<=9
 |0=>⟨aJ _,λh=>by omega,λs hs=>by cases hs⟩
 |t+1=>by
  obtain⟨a,b,c⟩:=aCZ hp ns st h1 h9 t;unfold ktN
  split
  ·rename_i h;refine⟨by omega,λ_=> ?_,c⟩;cases e:ktN p ns st d t with
   |nil=>rw[e] at h;simp at h
   |cons _ _=>simp
  ·refine⟨by rw[aN];simp;omega,λ_=>by rw[aN];simp,λs hs=> ?_⟩
   rcases aU.mp hs with hs|hs
   ·exact c s hs
   ·have e:=aH.mp hs;subst e;have r1:=cZ (lX (ns.getD (st+t) 0) (t+1) / 10^6) (show d≠0 by omega);have r2:=cS (lX (ns.getD (st+t) 0) (t+1) / 10^6) (show 0<d by omega);refine⟨aKq hp _, ?_, ?_⟩
    ·show(1:Int)<=1+_;omega
    ·show 1+_<=(9:Int);omega
theorem aON{p:Int×Int}(hp:p∈bW)(ns:List Int)(st:Nat){d:Int}(h1:1<=d)(h9:d<=9){m:Nat}(m1:0<m)(m8:m<=8):StkOk p (ktN p ns st d m):=by obtain⟨a,b,c⟩:=aCZ hp ns st h1 h9 m;exact⟨b m1,by omega,c⟩
noncomputable def aHy(c:Int)(n:Nat):List Nat:=if c%5=0 then bR n else(bR n).filter λb=>decide<|c / 5 / ((2^b:Nat):Int)%2=1
theorem aJj(c:Int)(n:Nat):(aHy c n).length<=n/\∀b∈aHy c n,b<n:=by
 unfold aHy
 split
 ·exact⟨by simp,λb hb=>cU.mp hb⟩
 ·exact⟨cD (jV _ _)<|by simp,λb hb=>cU.mp (fV.mp hb).1⟩
def aHK:List D->R->Prop:=λds r=>∃c p,p∈bW/\ds=[.int c,cJ p]/\r=.own (bT<|aHy c p.2.toNat)
theorem vV:∀ {sd:List Slot}{i:Nat}{z:Slot},(bU sd).Nodup->sd[i]? =some z->(fC z).Nodup
 |[],_,_,_,e=>by simp at e
 |y::zs,0,z,h,e=>by
  have:y=z:=by simpa using e
  subst this;exact(bE.mp (show(fC y++bU zs).Nodup from h)).1
 |y::zs,i+1,z,h,e=>vV (sd:=zs) (i:=i) (bE.mp (show(fC y++bU zs).Nodup from h)).2.1 (by simpa using e)
variable {ls:List BF}{nss:List (List Int)}
theorem StF.setX{as:List BF}{G:V->Hp->Hp->Prop}(S:StF K H₀ F H σ sd)(i:Nat)(q:dM K F H (.ox as G) (some v))(nd:as.Nodup)(no:∀a∈as,a∉bU sd):StF K H₀ F H (σ.set i (some v)) (sd.set i<|.ox as G):=
 ⟨S.base,S.sub,S.smp,S.slots.set (z:=.ox as G) q i,(iA (z:=.ox as G) i S.nd (λl e=>.inl<|no l e) nd).1⟩
theorem StF.reX{z z':Slot}{o:Option V}(S:StF K H₀ F H σ sd)(hs:sd[i]? =some z)(ho:σ[i]? =some o)(keep:∀b ob,b∉fC z->H b=some ob->H' b=some ob)(sm:Smp H')(q:dM K F H' z' o)(nd:(fC z').Nodup)(no:∀a∈fC z',a∈fC z\/a∉bU sd):StF K H₀ F H' σ (sd.set i z'):=by
 have S0:=S.le<|gB sd i;have mz:∀a∈fC z,a∈bU sd:=λa ha=>dU.mpr ⟨z,aY hs,ha⟩
 refine⟨S.base,λb u e=> ?_,sm, ?_, ?_⟩
 ·refine keep b u (λhb=> ?_)<|S.sub _ _ e;have:=(S.slots.owns<|mz b hb).1;rw[e] at this;cases this
 ·have q1:SlotsOk K F H' (sd.set i .un) σ:=S0.slots.mono (Same.refl _) λa ha=>⟨(S0.slots.owns ha).1,λob e=>keep a ob (λhb=>gF S.nd hs hb ha) e⟩
  have q2:=q1.set (z:=z') (o:=o) q i;rw[jF,lF ho] at q2;exact q2
 ·have:=iA (z:=z') i S0.nd (fun a ha=>by
   rcases no a ha with h|h
   ·exact .inl<|gF S.nd hs h
   ·exact .inl λhm=>h ((gB sd i).own.subset hm)) nd
  rw[jF] at this;exact this.1
noncomputable def inF(F H:Hp)(as:List BF):Hp:=λb=>if b∈as then H b else F b
theorem aCQ{as:List BF}{b:BF}(h:b∈as):inF F H as b=H b:=if_pos h
theorem aDn{as:List BF}{b:BF}(h:b∉as):inF F H as b=F b:=if_neg h
theorem aKy{as:List BF}(h:∀a∈as,F a=none):Same F (inF F H as):=λb u e=>by rw[aDn λhb=>by rw[h b hb] at e;cases e];exact e
theorem StF.inN(S:StF K H₀ F H σ sd)(h0:∀a∈l::ls,F a=none)(no:∀a∈l::ls,a∉bU sd):StF K H₀ (inF F H (l::ls)) H σ sd/\Same F (inF F H (l::ls)):=by
 have s1:=aKy (H:=H) h0;refine⟨⟨λb u e=>s1 _ _<|S.base _ _ e,λb u e=> ?_,S.smp,S.slots.mono s1 λa ha=>⟨?_,λob e=>e⟩,S.nd⟩,s1⟩
 ·by_cases h:b∈l::ls
  ·rw[aCQ h] at e;exact e
  ·rw[aDn h] at e;exact S.sub _ _ e
 ·rw[aDn λhb=>no a hb ha];exact(S.slots.owns ha).1
variable {ns:List Int}
theorem aJT(h:Smp H)(a:BF):Smp (upd H a<|.lst xs):=λb u e=>by
 by_cases z:b=a
 ·subst z;rw[bJ] at e;cases e;trivial
 ·rw[aR z] at e;exact h _ _ e
noncomputable def InD(K:aA)(F H:Hp):List BF->List (List D)->Prop
 |[],[]=>True
 |a::as,ds::dss=>(∃xs,H a=some (.lst xs)/\RepL K F ds xs)/\InD K F H as dss
 |_,_=>False
theorem InD.len:∀ {as:List BF}{dss:List (List D)},InD K F H as dss->as.length=dss.length
 |[],[],_=>rfl
 |[],_::_,h=>h.elim
 |_::_,[],h=>h.elim
 |_::as,_::dss,h=>by rw[bD,bD,InD.len h.2]
theorem InD.of:∀ {as:List BF}{dss:List (List D)},InD K F H as dss->∀a∈as,∃xs,H a=some (.lst xs)
 |[],[],_,a,ha=>by cases ha
 |[],_::_,h,_,_=>h.elim
 |_::_,[],h,_,_=>h.elim
 |b::as,_::dss,h,a,ha=>by
  rcases bA.mp ha with rfl|ha
  ·exact⟨h.1.choose,h.1.choose_spec.1⟩
  ·exact InD.of h.2 a ha
variable {dss:List (List D)}
theorem InD.mono2:∀ {as:List BF}{dss:List (List D)},InD K F H as dss->Same F F'->(∀a∈as,∀ob,H a=some ob->H' a=some ob)->InD K F' H' as dss
 |[],[],_,_,_=>trivial
 |[],_::_,h,_,_=>h.elim
 |_::_,[],h,_,_=>h.elim
 |a::as,_::dss,h,s,k=>by obtain⟨⟨xs,e,r⟩,h2⟩:=h;exact⟨⟨xs,k a aG _ e,r.mono s⟩,InD.mono2 h2 s λb hb=>k b<|aE _ hb⟩
theorem InD.get:∀ {as:List BF}{dss:List (List D)}{t:Nat}{a:BF},InD K F H as dss->as[t]? =some a->∃ds xs,dss[t]? =some ds/\H a=some (.lst xs)/\RepL K F ds xs
 |[],[],t,a,_,e=>by simp at e
 |[],_::_,_,_,h,_=>h.elim
 |_::_,[],_,_,h,_=>h.elim
 |b::as,ds::dss,0,a,h,e=>by
  have:b=a:=by simpa using e
  subst this;obtain⟨⟨xs,e1,r⟩,_⟩:=h;exact⟨ds,xs,rfl,e1,r⟩
 |b::as,ds::dss,t+1,a,h,e=>by obtain⟨ms,xs,e1,e2⟩:=InD.get (t:=t) h.2 (by simpa using e);exact⟨ms,xs,by simpa using e1,e2⟩
theorem InD.set:∀ {as:List BF}{dss:List (List D)}{t:Nat}{a:BF}{es:List D}{ys:List V},as.Nodup->InD K F H as dss->as[t]? =some a->RepL K F es ys->InD K F (upd H a<|.lst ys) as (dss.set t es)
 |[],[],t,a,_,_,_,_,e,_=>by simp at e
 |[],_::_,_,_,_,_,_,h,_,_=>h.elim
 |_::_,[],_,_,_,_,_,h,_,_=>h.elim
 |b::as,ds::dss,0,a,es,ys,nd,h,e,r=>by
  have:b=a:=by simpa using e
  subst this;refine⟨⟨ys,bJ,r⟩,h.2.mono2 (Same.refl _) λc hc ob q=> ?_⟩;rw[aR (show c≠b from λz=>(bS.mp nd).1<|z▸hc)];exact q
 |b::as,ds::dss,t+1,a,es,ys,nd,h,e,r=>by
  have e':as[t]? =some a:=by simpa using e
  obtain⟨⟨xs,e1,r1⟩,h2⟩:=h;refine⟨⟨xs, ?_,r1⟩,InD.set (bS.mp nd).2 h2 e' r⟩;rw[aR (show b≠a from λz=>(bS.mp nd).1<|z▸aY e')];exact e1
theorem aDG{G:Hp}:∀ {as:List BF}{dss:List (List D)},InD K G G as dss->RepL K G (dss.map D.lst) (as.map V.ref)
 |[],[],_=>.nil
 |[],_::_,h=>h.elim
 |_::_,[],h=>h.elim
 |a::as,ds::dss,h=>by obtain⟨⟨xs,e,r⟩,h2⟩:=h;rw[aW,aW];refine .cons ?_<|aDG h2;simp only[Rep];exact⟨a,xs,rfl,e,r⟩
noncomputable def vW(f:Nat->Bool)(A:List (List Int)):Option (List Int):=((bR A.length).find? f).map λk=>A.getD k []
theorem aCb{f:Nat->Bool}{A:List (List Int)}{k:Nat}(hk:k<A.length)(h:f k=true)(hn:∀j,j<k->f j=false):vW f A=some (A.getD k []):=by
 unfold vW
 have:(bR A.length).find? f=some k:=by rw[List.find?_range_eq_some];exact⟨h,cU.mpr hk,λj hj=>by rw[hn j hj];rfl⟩
 rw[this];rfl
theorem aBO{f:Nat->Bool}{A:List (List Int)}(hn:∀j,j<A.length->f j=false):vW f A=none:=by unfold vW;rw[List.find?_eq_none.mpr λk hk=>by rw[hn k<|cU.mp hk];simp];rfl
noncomputable def wsD:Option (List<|List Int)->D
 |none=>.non
 |some L=>.lst<|L.map bP
def WsOk(p:Int×Int)(o:Option (List<|List Int)):Prop:=∀L,o=some L->0<L.length/\L.length<=100/\∀ws∈L,Fil p ws
structure aAI(p:Int×Int)(w:List (Option (List<|List Int))):Prop where
 len:w.length=(bV p).length
 ok:∀o∈w,WsOk p o
theorem aOD{w:List (Option (List<|List Int))}{k:Nat}(h:k<w.length):(w.map wsD)[k]? =some (wsD<|w.getD k none):=by simp[cK,h]
theorem aJk(o:Option (List Int)):isN (aNE o)=o.isNone:=by cases o<;>rfl
noncomputable def aNP(w:List (Option (List<|List Int)))(T:List (List Int))(k:Nat):Bool:=match w.getD k none with
 |none=>false
 |some L=> !decide (T.getD k []∈L)
noncomputable def uZ(w:List (Option (List<|List Int)))(A T:List (List Int)):Option (List Int):=vW (aNP w T) A
def aLE:List D->R->Prop:=λds r=>∃p w T,p∈bW/\aAI p w/\xY p T/\ds=[cJ p,.lst<|w.map wsD,.tup<|T.map bP]/\r=.val (aNE<|uZ w (bV p) T)
def aLS:List D->R->Prop:=λds r=>∃p w T,p∈bW/\aAI p w/\xY p T/\ds=[cJ p,.lst<|w.map wsD,.tup<|T.map bP]/\r=.val (.bl (uZ w (bV p) T).isNone)
theorem aBu(L:List (List Int))(t:List Int):((L.map bP).any λz=>deq z<|bP t)=decide (t∈L):=by
 induction L with
 |nil=>simp
 |cons a L ih=>
  rw[aW,kC,ih,aBn]
  by_cases h:t=a
  ·simp[h]
  ·have h2:¬ a=t:=λq=>h q.symm
   simp[h,h2]
noncomputable def wdQ(bs:List Nat)(f:List Int):List Int:=bs.map λj=>f.getD j 0
theorem aHl{α β:Type}{xs:List α}{ys:List β}(h:xs.length=ys.length)(x:α)(y:β):(xs++[x]).zip (ys++[y])=xs.zip ys++[(x,y)]:=by rw[aLk h];rfl
theorem oP{ks:List Key}{k:Key}(hk:k∉ks):∀ {ks':List Key}{xs:List V},(∀j∈ks',j∈ks)->iO (ks'.zip xs) k=none
 |[],_,_=>rfl
 |_::_,[],_=>rfl
 |j::js,x::xs,h=>by rw[cW,gH (p:=(j,x)) (k:=k) (λe=>hk<|(show j=k from e)▸h j aG)];exact oP hk λi hi=>h i<|aE _ hi
theorem zE:∀ {ks:List Key}{xs:List V}{n:Nat}{k:Key}{x:V},ks.Nodup->ks[n]? =some k->xs[n]? =some x->iO (ks.zip xs) k=some x
 |[],_,n,_,_,_,h,_=>by simp at h
 |_::_,[],n,_,_,_,_,h=>by simp at h
 |j::js,y::ys,0,k,x,nd,h1,h2=>by
  have e1:j=k:=by simpa using h1
  have e2:y=x:=by simpa using h2
  rw[cW,jG e1,e2]
 |j::js,y::ys,n+1,k,x,nd,h1,h2=>by
  obtain⟨nj,nd⟩:=bS.mp nd;have h1:js[n]? =some k:=by simpa using h1
  have h2:ys[n]? =some x:=by simpa using h2
  rw[cW,gH (p:=(j,y)) (k:=k) (λe=>nj<|(show j=k from e)▸aY h1)];exact zE nd h1 h2
theorem aGT(h:BH)(vs:List BD)(out:Array BD):(∀b x,h.get? b=some x->(sortedAll h vs out).get? b=some x)/\∃n,(sortedAll h vs out).get? (h.objs.size+1)=some (Ah "list" out n):=by
 have hsz:((h.push<|Ah "list" #[] 0).update h.objs.size (Obj.mapSeq (·++vs.toArray))).objs.size=h.objs.size+1:=by rw[nI,size_push']
 have hoL:(((h.push<|Ah "list" #[] 0).update h.objs.size (Obj.mapSeq (·++vs.toArray))).push<|Ah "list" vs.toArray 0).get? (h.objs.size+1)=some (Ah "list" vs.toArray 0):=by rw[<-hsz];exact bN _ rfl
 constructor
 ·intro b x g;have lt:=aP g;have n1:h.objs.size≠b:=λz=>absurd lt (by rw[z];exact eD _)
  have n2:h.objs.size+1≠b:=λz=>absurd lt (by rw[<-z];exact oH.mpr<|gM _)
  unfold sortedAll sortedHeap;rw[cP _ _ n2];refine aF _<|aF _ ?_;rw[cP _ _ n2];refine aF _ ?_;rw[cP _ _ n1];exact aF _ g
 ·obtain⟨n1,g1⟩:∃n1,((((h.push<|Ah "list" #[] 0).update h.objs.size (Obj.mapSeq (·++vs.toArray))).push<|Ah "list" vs.toArray 0).update (h.objs.size+1)<|Obj.mapSeq λ_=> #[]).get? (h.objs.size+1)=some (Ah "list" #[] n1):=⟨_,get?_update_seq hoL λ_=> #[]⟩;exact⟨_,get?_update_seq (aF _<|aF _ g1) λ_=>out⟩
noncomputable def exO(l:BF)(o:BI):HO:=.ext λh=>h.get? l=some o
theorem nQ{h:BH}{o:BI}(g:h.get? l=some o):ObjOk P w H h l (exO l o):=⟨g,⟨o,g⟩,λ_ _ q k=>k _ q⟩
def TDo(P:AE)(w:AL)(F:Hp)(l:BF)(o:BI)(kvs:List (List Key×V)):Prop:=
 kvs.length<=AM/\(l==AZ)=false/\∃xs,KT F kvs xs/\∃es ep,o.ExactDict/\o.data=.dict es ep/\es.toList=xs.map (entryOfKey (Af<|eA P w))/\(xs.map (·.1)).Nodup
theorem TDo.mono{o:BI}{kvs:List (List Key×V)}(t:TDo P w F l o kvs)(s:Same F F'):TDo P w F' l o kvs:=by obtain⟨z,y,xs,r,q⟩:=t;exact⟨z,y,xs,r.keeps λb ys e=>s _ _ e,q⟩
theorem KT.all{h:BH}(ok:HOk P w H h){l:List (List Key×V)}{m:List (List Key×BF×BD)}(q:KT H l m):∀x∈m,(Af<|eA P w).is h x.1 x.2.1:=by
 induction q with
 |nil=>intro x hx;exact nomatch hx
 |@cons p q ps qs hq t ih=>
  intro x hx
  rcases bA.mp hx with e|hx
  ·subst e;exact lU ok (by rw[<-hq.1];exact hq.2.1)
  ·exact ih x hx
noncomputable def kD:Key->D
 |.inl i=>.int i
 |.inr x=>.str x
theorem nK{K:aA}{F:Hp}:∀ {k:List Key}{xs:List V},RepL K F (k.map kD) xs->xs=k.map kV
 |[],xs,r=>by simpa only[eF,RepL] using r
 |a::k,xs,r=>by
  rw[aW] at r;obtain⟨y,ys,rfl,q,rl⟩:=r.uncons;rw[nK rl,aW];congr 1;cases a with
  |inl i=>simp only[kD,Rep] at q;exact q
  |inr x=>simp only[kD,Rep] at q;exact q
theorem rQ{α β:Type}{xs:List α}{ys:List β}(h:xs.length=ys.length)(x:α)(y:β):(xs++[x]).zip (ys++[y])=xs.zip ys++[(x,y)]:=by rw[aLk h];rfl
theorem yL{ks:List (List Key)}{k:List Key}(hk:k∉ks):∀ {ks':List (List Key)}{xs:List V},(∀j∈ks',j∈ks)->iO (ks'.zip xs) k=none
 |[],_,_=>rfl
 |_::_,[],_=>rfl
 |j::js,x::xs,h=>by rw[cW,gH (p:=(j,x)) (k:=k) (λe=>hk<|(show j=k from e)▸h j aG)];exact yL hk λi hi=>h i<|aE _ hi
theorem aDu:∀ {ks:List (List Key)}{xs:List V}{n:Nat}{k:List Key}{x:V},ks.Nodup->ks[n]? =some k->xs[n]? =some x->iO (ks.zip xs) k=some x
 |[],_,n,_,_,_,h,_=>by simp at h
 |_::_,[],n,_,_,_,_,h=>by simp at h
 |j::js,y::ys,0,k,x,nd,h1,h2=>by
  have e1:j=k:=by simpa using h1
  have e2:y=x:=by simpa using h2
  rw[cW,jG e1,e2]
 |j::js,y::ys,n+1,k,x,nd,h1,h2=>by
  obtain⟨nj,nd⟩:=bS.mp nd;have h1:js[n]? =some k:=by simpa using h1
  have h2:ys[n]? =some x:=by simpa using h2
  rw[cW,gH (p:=(j,y)) (k:=k) (λe=>nj<|(show j=k from e)▸aY h1)];exact aDu nd h1 h2
theorem vO:∀ {sd:List Slot}{i:Nat}{z:Slot},(bU sd).Nodup->sd[i]? =some z->(fC z).Nodup
 |[],_,_,_,e=>by simp at e
 |y::zs,0,z,h,e=>by
  have:y=z:=by simpa using e
  subst this;exact(bE.mp (show(fC y++bU zs).Nodup from h)).1
 |y::zs,i+1,z,h,e=>vO (sd:=zs) (i:=i) (bE.mp (show(fC y++bU zs).Nodup from h)).2.1 (by simpa using e)
variable {ks:List (List Key)}
theorem StF.setT{as:List BF}{G:V->Hp->Hp->Prop}(S:StF K H₀ F H σ sd)(i:Nat)(q:dM K F H (.ox as G) (some v))(nd:as.Nodup)(no:∀a∈as,a∉bU sd):StF K H₀ F H (σ.set i (some v)) (sd.set i<|.ox as G):=
 ⟨S.base,S.sub,S.smp,S.slots.set (z:=.ox as G) q i,(iA (z:=.ox as G) i S.nd (λl e=>.inl<|no l e) nd).1⟩
theorem StF.reT{z z':Slot}{o:Option V}(S:StF K H₀ F H σ sd)(hs:sd[i]? =some z)(ho:σ[i]? =some o)(keep:∀b ob,b∉fC z->H b=some ob->H' b=some ob)(sm:Smp H')(q:dM K F H' z' o)(nd:(fC z').Nodup)(no:∀a∈fC z',a∈fC z\/a∉bU sd):StF K H₀ F H' σ (sd.set i z'):=by
 have S0:=S.le<|gB sd i;have mz:∀a∈fC z,a∈bU sd:=λa ha=>dU.mpr ⟨z,aY hs,ha⟩
 refine⟨S.base,λb u e=> ?_,sm, ?_, ?_⟩
 ·refine keep b u (λhb=> ?_)<|S.sub _ _ e;have:=(S.slots.owns<|mz b hb).1;rw[e] at this;cases this
 ·have q1:SlotsOk K F H' (sd.set i .un) σ:=S0.slots.mono (Same.refl _) λa ha=>⟨(S0.slots.owns ha).1,λob e=>keep a ob (λhb=>gF S.nd hs hb ha) e⟩
  have q2:=q1.set (z:=z') (o:=o) q i;rw[jF,lF ho] at q2;exact q2
 ·have:=iA (z:=z') i S0.nd (fun a ha=>by
   rcases no a ha with h|h
   ·exact .inl<|gF S.nd hs h
   ·exact .inl λhm=>h ((gB sd i).own.subset hm)) nd
  rw[jF] at this;exact this.1
theorem mG{o:BI}(h:Smp H)(a:BF):Smp (upd H a<|exO a o):=λb u e=>by
 by_cases z:b=a
 ·subst z;rw[bJ] at e;cases e;trivial
 ·rw[aR z] at e;exact h _ _ e
variable {k:List Key}
noncomputable def aFO:BI:={cls:=.type "dict",data:=.dict #[]}
theorem aBv:PE X (.Dict [] [] pos) (λ_ H Q=>∀p,H p=none->(p==AZ)=false->Q (.ref p) (upd H p<|exO p aFO)):=λpins s σ H Q I h=>wpAny_Dict_empty ⟨.ref s.heap.objs.size,_,I.laid (a:=s.heap.objs.size) (o:=exO s.heap.objs.size aFO) (t':=s.toks) (λ_ _ q=>aF _ q) (aJ _) (nQ<|bN _ rfl),rfl,h _ (I.hok.fresh<|aJ _)<|beq_eq_false_iff_ne.mpr (Ne.symm<|bQ I.big)⟩
section
variable {prog:AE}{w:AL}{K:Type}[DecidableEq K]{knd:HeapKind prog w K}{A:BG}{E:BD->BE->Prop}{s:BE}
theorem pD{d a:BF}{xs:List (K×BF×BD)}{k:K}{v:BD}{Q:BD->BE->Prop}(hu:knd.room A)(hkey:knd.is s.heap k a)(hm:s.heap.DictOfH knd d xs)
  (hold:∀u,(atKey xs k).map (·.2)=some u->Q u {s with toks:=s.toks+knd.draws k})
  (hnew:atKey xs k=none->∀h',h'.DictOfH knd d (storedH xs k a v)->Heap.SameBut d s.heap h'->Q v {s with heap:=h',toks:=s.toks+knd.draws k})
  (hsz:xs.length<=AM):
  AK (AG prog w) A (dictSetDefault d (.ref a) v) Q E s:=by
 obtain⟨o,es,ep,ho,hc,hd,he,his,hn⟩:=hm;unfold dictSetDefault
 try with_reducible refine Ak ?_
 refine AA<|knd.pyHash hu hkey ?_;refine AA<|wpAny_dictFind_heap (s:={s with toks:=s.toks+knd.draws k}) hu hkey ho hd he his hn ?_ ?_
 ·intro hno;have hnot:k∉xs.map (·.1):=not_mem_keys_of_get hno
  refine AA (BB (AA (wpAny_updateDictKeys (hz:=by have e:=Au he; omega) (s:={s with toks:=s.toks+knd.draws k}) ho hd (AC (hnew (atKey_none_of_get hno) _ ⟨_,_,ep+1,fQ _ ho (Obj.isFreed_of_dict (Obj.data_mapDictKeys hd _)),
   hc.mapDictKeys _,Obj.data_mapDictKeys hd _, ?_, ?_, ?_⟩ (Heap.SameBut.update ..))))))
  ·rw[storedH_new<|atKey_none_of_get hno];simp[he,entryOfKey]
  ·rw[storedH_new<|atKey_none_of_get hno];intro x hx
   rcases aU.mp hx with hx|hx
   ·exact knd.keeps (his x hx) ho hd<|Heap.SameBut.update ..
   ·simp only[aH] at hx;subst hx;exact knd.keeps hkey ho hd<|Heap.SameBut.update ..
  ·rw[storedH_new<|atKey_none_of_get hno];rw[bK,bE];refine⟨hn,by simp, ?_⟩;intro x hx y hy;simp only[aW,eF,aH] at hy;subst hy;exact λe=>hnot<|e▸hx
 ·intro j p hj;refine AA<|An (s:={s with toks:=s.toks+knd.draws k}) ho hd ?_;rw[entry_at he j,hj];have:=hold p.2 (by rw[atKey_of_get hn hj];rfl);exact AA (BB<|AC this)
end
section
variable {prog:AE}{w:AL}{K:Type}[DecidableEq K](knd:HeapKind prog w K)(d a:BF)
theorem pR(hd:(d==AZ)=false)(dflt:BD):
  MeetsIn prog w (Builtin.«dict.setdefault» ⟨[.ref d, .ref a,dflt],[]⟩) (fun A R s=>knd.room A.in1∧∃k xs,knd.is s.heap k a∧s.heap.DictOfH knd d xs∧xs.length≤AM∧
   (∀u,(atKey xs k).map (·.2)=some u->R (.ok<|.ret u) {s with toks:=s.toks+knd.draws k})/\
   (atKey xs k=none->∀h',h'.DictOfH knd d (storedH xs k a dflt)->Heap.SameBut d s.heap h'->R (.ok (.ret dflt)) {s with heap:=h',toks:=s.toks+knd.draws k})):=
 .of_wp λA R s ⟨hu,k,xs,hkey,hm,hz,h1,h2⟩=>by unfold Builtin.«dict.setdefault»;refine AA ?_;unfold Builtin.Dict.keyAndDefault;refine AA<|Aw hm.typeIs ?_;show AK _ _ (pure (d,Value.ref a,some dflt)) _ _ s;refine AC ?_;show AK _ _ (if(d==AZ)=true then _ else(dictSetDefault d (.ref a) dflt>>=_)) _ _ s;rw[if_neg<|by rw[hd];exact bH];exact AA<|pD (hsz:=hz) hu hkey hm (λv hv=>AC ⟨v,rfl,h1 v hv⟩) λhn h' hm' hs'=>AC ⟨dflt,rfl,h2 hn h' hm' hs'⟩
end
section
variable {X:Cx}{o e:Expr}{es:List Expr}{to:TE}{t:TA}{name:Str}{apos cpos:Pos}{id:String}{r:V->List V->Hp->VK->Prop}
theorem aLH(pa:PlainAttrs "dict")(slot:PySem.Slot "dict" name id)(hty:typeOf (.builtin id)=pure (.type "method_descriptor"))(hm:MtR X id r)(ho:PE X o to)(ha:PA X (e::es) t)
  (hbase:Ae o name X.env (eval o X.env)=eval o X.env:=by rfl)
  (hfew:((Aa cpos (AB (e::es) X.env)).all (fun x=> !x.1) && (backToKw cpos (keywordEach [] X.env)).all (fun x=>x.1.isSome)
  &&decide ((e::es).length+([]:List Keyword).length+(if([]:List Keyword).isEmpty then 0 else 1)<30))=true:=by rfl)
  (hline:(apos.endLine==cpos.line)=true:=by rfl) (hs:AB (e::es) X.env=(false,eval e X.env)::AB es X.env:=by rfl) (hplain:(Aa cpos<|AB es X.env).any (·.1)=false:=by rfl):
  PE X (.Call (.Attribute o name apos) (e::es) [] cpos) (λσ H Q=>to σ H λx H1=>(∃l ob,x=.ref l/\H1 l=some (exO l ob)/\ob.ExactDict)/\t σ H1 λxs H2=>r x xs H2 Q):=by
 intro pins s σ H Q I h;refine wpAny_Call_method_late hbase hfew hline rfl<|thn (ho pins s σ H _ I h) λv s1 ⟨x,H1,I1,r1,⟨l,ob,e1,e2,e3⟩,q1⟩=> ?_;subst e1;obtain rfl:v=Value.ref l:=r1;have hg:s1.heap.get? l=some ob:=(I1.hok l _ e2).1;refine⟨"dict",id,pa,slot,hty,⟨ob,hg,e3.1⟩,λa q=> ?_, ?_⟩
 ·cases q;exact⟨ob,hg,e3.2.1⟩
 have hA:=ha cpos pins s1 σ H1 _ I1 q1;rw[hs] at hA ⊢;refine Calls.callWith_builtin (by show(false||(Aa cpos<|AB es X.env).any (·.1))=false;rw[hplain]<;>rfl)<|Calls.evalArgs_plain ?_;exact thn hA λus s2 ⟨vs,H2,I2,r2,q2⟩=>hm pins s2 σ H2 (.ref l) vs (.ref l) us Q I2 rfl r2 q2
def rSD(X:Cx):V->List V->Hp->VK->Prop:=λx vs H Q=>∃ (F:Hp) (l ad:BF) (k:List Key) (y:V) (o:BI) (kvs:List (List Key×V)),x=.ref l/\vs=[.ref ad,y]/\Same F H/\H l=some (exO l o)/\F ad=some (.tup<|k.map kV)/\X.A.units+1<AS/\
 TDo X.prog X.w F l o kvs/\kvs.length+1<=AM/\(∀z,iO kvs k=some z->Q z H)/\(iO kvs k=none->∀o',(∀v,o'.data≠ .cell v)->TDo X.prog X.w F l o' (kvs++[(k,y)])->Q y (upd H l<|exO l o'))
theorem aOB:MtR X "dict.setdefault" (rSD X):=by
 intro pins s σ H x vs v us Q I rx rv h;obtain⟨F,l,ad,k,y,o,kvs,rfl,rfl,sF,hl,ha,hu,⟨z,hm,ts,kt,es,ep,t1,t2,t3,t4⟩,hz1,q1,q2⟩:=h;obtain rfl:v=Value.ref l:=rx;cases rv with
 |cons r1 rv=>
  obtain⟨u,rfl,ru⟩:=Vals.one rv;rename_i b;obtain rfl:b=Value.ref ad:=r1;have ho:s.heap.get? l=some o:=(I.hok l _ hl).1;have ktH:KT H kvs ts:=kt.keeps λb ys e=>sF _ _ e
  have dd:s.heap.DictOfH (Af<|eA X.prog X.w) l ts:=⟨o,es,ep,ho,t1,t2,t3,KT.all I.hok ktH,t4⟩;have hz:ts.length<=AM:=by rw[<-Paired.length kt];exact z
  refine call_meetsIn tF dd.typeIs PySem.F.entry_dict_setdefault (PySem.F.args_dict_setdefault_3 _ _ _) (pR (Af<|eA X.prog X.w) l ad hm u) ⟨Ad hu,k,ts,lU I.hok<|sF _ _ ha,dd,hz,λw' hw=> ?_,λhn h' dd' hsm=> ?_⟩
  ·have rl:=ktH.val k;rw[hw] at rl;cases hv:iO kvs k with
   |none=>rw[hv] at rl;cases rl
   |some z'=>rw[hv] at rl;exact⟨z',H,I.tok _,rl,q1 z' hv⟩
  ·have hn':iO kvs k=none:=by
    have rl:=ktH.val k;rw[hn] at rl;cases hv:iO kvs k with
    |none=>rfl
    |some z'=>rw[hv] at rl;cases rl
   obtain⟨q,es',ep',hq,u2,u3,u4,_,u5⟩:=dd';have I4:=oQ (t':=s.toks+(Af<|eA X.prog X.w).draws k) I (ob:=exO l q) (by rw[hl];exact True.intro) hsm ⟨q,hq⟩<|nQ hq;have kt':=kt.put k ha ru;rw[qC y hn'] at kt';exact⟨y,_,I4,ru,q2 hn' q (λv z=>by rw[u3] at z;cases z) ⟨by rw[aN];exact hz1,hm,_,kt',es',ep',u2,u3,u4,u5⟩⟩
end
def Gg(P:AE)(w:AL)(K:aA)(l:BF)(ks:List (List Key))(ls:List BF)(dss:List (List D)):V->Hp->Hp->Prop:=λv F H=>v=.ref l/\(∃o,H l=some (exO l o)/\(∀v,o.data≠ .cell v)/\ks.length=ls.length/\TDo P w F l o (ks.zip<|ls.map V.ref))/\InD K F H ls dss
noncomputable def odG(P:AE)(w:AL)(K:aA)(l:BF)(ks:List (List Key))(ls:List BF)(dss:List (List D)):Slot:=.ox (l::ls)<|Gg P w K l ks ls dss
noncomputable def goR(P:AE)(w:AL)(K:aA)(ks:List (List Key))(dss:List (List D)):R:=.ox λv as F H=>∃l ls,as=l::ls/\Gg P w K l ks ls dss v F H
def Gf(P:AE)(w:AL)(K:aA)(ks:List (List Key))(ds:List D):V->Hp->Hp->Prop:=λv F _=>∃l o xs,v=.ref l/\F l=some (exO l o)/\RepL K F ds xs/\ks.length=ds.length/\TDo P w F l o (ks.zip xs)
noncomputable def odF(P:AE)(w:AL)(K:aA)(ks:List (List Key))(ds:List D):Slot:=.ox []<|Gf P w K ks ds
theorem yP:∀ {ks:List (List Key)}{xs:List V}{k:List Key}{z:V},iO (ks.zip xs) k=some z->∃n:Nat,ks[n]? =some k/\xs[n]? =some z
 |[],_,_,_,h=>by cases h
 |_::_,[],_,_,h=>by cases h
 |j::js,y::ys,k,z,h=>by
  rw[cW] at h
  by_cases e:j=k
  ·rw[jG (p:=(j,y)) e] at h;exact⟨0,by simp[e],by simpa using h⟩
  ·rw[gH (p:=(j,y)) (k:=k) e] at h;obtain⟨n,h1,h2⟩:=yP h;exact⟨n+1,by simpa using h1,by simpa using h2⟩
theorem aDJ:∀ {ks:List (List Key)}{xs:List V}{k:List Key},ks.length=xs.length->iO (ks.zip xs) k=none->k∉ks
 |[],_,_,_,_=>by simp
 |_::_,[],_,h,_=>by cases h
 |j::js,y::ys,k,hl,h=>by
  rw[cW] at h
  by_cases e:j=k
  ·rw[jG (p:=(j,y)) e] at h;cases h
  ·rw[gH (p:=(j,y)) (k:=k) e] at h;have:=aDJ (Nat.succ.inj hl) h;exact λhm=>(bA.mp hm).elim (λq=>e q.symm) this
theorem aFo{z:Slot}(h:sd[i]? =some z):sd.set i z=sd:=by obtain⟨hi,e⟩:=aD.mp h;rw[<-e,oZ]
theorem gP(S:StF K H₀ F H σ sd)(hs:sd[i]? =some (odG P w K l ks ls dss)):σ[i]? =some (some<|.ref l)/\(∀a∈l::ls,F a=none)/\(∃o,H l=some (exO l o)/\(∀v,o.data≠ .cell v)/\ks.length=ls.length/\TDo P w F l o (ks.zip<|ls.map V.ref))/\InD K F H ls dss/\(l::ls).Nodup:=by
 obtain⟨o,h1,v,h2,h3,h4⟩:=S.slots.get hs;obtain⟨e,q1,q2⟩:=h4 F H (Same.refl _) λ_ _ _ q=>q
 subst e h2;exact⟨h1,λa ha=>(h3 a ha).1,q1,q2,vV S.nd hs⟩
theorem uR{o:BI}(hF:∀a∈l::ls,F a=none)(h1:H l=some (exO l o))(nc:∀v,o.data≠ .cell v)(hl:ks.length=ls.length)(t:TDo P w F l o (ks.zip<|ls.map V.ref))(h2:InD K F H ls dss):dM K F H (odG P w K l ks ls dss) (some<|.ref l):=by
 refine⟨.ref l,rfl,λa ha=>⟨hF a ha, ?_⟩,λF' H' s k=>⟨rfl,⟨o,k _ aG _ h1,nc,hl,t.mono s⟩,h2.mono2 s λa ha=>k a<|aE _ ha⟩⟩
 rcases bA.mp ha with rfl|ha
 ·exact⟨_,h1,o,rfl,nc⟩
 ·obtain⟨xs,e⟩:=h2.of a ha;exact⟨.lst xs,e,trivial⟩
theorem StF.wrG{t:Nat}{a:BF}{es:List D}{ys:List V}(S:StF K H₀ F H σ sd)(hs:sd[i]? =some (odG P w K l ks ls dss))(ht:ls[t]? =some a)(r:RepL K F es ys):StF K H₀ F (upd H a<|.lst ys) σ (sd.set i (odG P w K l ks ls<|dss.set t es)):=by
 obtain⟨g1,g2,⟨o,g3,nc,hl,td⟩,g4,g5⟩:=gP S hs;obtain⟨n1,n2⟩:=bS.mp g5;have ma:=aY ht
 refine S.reX (z':=odG P w K l ks ls (dss.set t es)) hs g1 (fun b ob hb q=> ?_) (aJT S.smp a) (uR g2 (by
  rw[aR (show l≠a from λz=>n1<|z▸ma)]
  exact g3) nc hl td (g4.set n2 ht r)) g5 λb hb=>.inl hb
 rw[aR (show b≠a from λz=>hb<|z▸aE _ ma)];exact q
theorem InD.snoc{a:BF}:∀ {as:List BF}{dss:List (List D)},InD K F H as dss->H a=some (.lst [])->InD K F H (as++[a]) (dss++[[]])
 |[],[],_,e=>⟨⟨[],e,.nil⟩,trivial⟩
 |[],_::_,h,_=>h.elim
 |_::_,[],h,_=>h.elim
 |_::_,_::_,h,e=>⟨h.1,InD.snoc h.2 e⟩
theorem StF.newG{a:BF}{o:BI}(S:StF K H₀ F H σ sd)(hs:sd[i]? =some (odG P w K l ks ls dss))(fa:F a=none)(ha:H a=some (.lst []))(na:a∉bU sd)(nc:∀v,o.data≠ .cell v)(td:TDo P w F l o (ks.zip (ls.map V.ref)++[(k,.ref a)])):
  StF K H₀ F (upd H l<|exO l o) σ (sd.set i (odG P w K l (ks++[k]) (ls++[a])<|dss++[[]])):=by
 obtain⟨g1,g2,⟨o',g3,nc',hl,_⟩,g4,g5⟩:=gP S hs;obtain⟨n1,n2⟩:=bS.mp g5;have ml:∀b∈l::ls,b∈bU sd:=λb hb=>dU.mpr ⟨_,aY hs,hb⟩
 have al:a≠l:=λz=>na<|z▸ml l aG
 have als:a∉ls:=λz=>na (ml a<|aE _ z)
 have sp:∀b,b∈l::(ls++[a])->b∈l::ls\/b=a:=λb hb=>by
  rcases bA.mp hb with h|h
  ·exact .inl<|h▸aG
  ·rcases aU.mp h with h|h
   ·exact .inl<|aE _ h
   ·exact .inr<|aH.mp h
 refine S.reX (z':=odG P w K l (ks++[k]) (ls++[a])<|dss++[[]]) hs g1 (λb ob hb q=> ?_) (mG S.smp l) (uR (λb hb=> ?_) bJ nc (by rw[aN,aN,hl];rfl) ?_ ?_) ?_ λb hb=> ?_
 ·rw[aR (show b≠l from λz=>hb<|z▸aG)];exact q
 ·rcases sp b hb with h|rfl
  ·exact g2 b h
  ·exact fa
 ·rw[bK,aW,eF,rQ<|by rw[aC];exact hl];exact td
 ·refine InD.snoc (g4.mono2 (Same.refl _) λb hb ob q=> ?_) ?_
  ·rw[aR (show b≠l from λz=>n1<|z▸hb)];exact q
  ·rw[aR al];exact ha
 ·show(l::(ls++[a])).Nodup;refine bS.mpr ⟨λh=> ?_,bE.mpr ⟨n2,by simp,λb hb c hc e=>als<|aH.mp hc▸e▸hb⟩⟩
  rcases aU.mp h with h|h
  ·exact n1 h
  ·exact al (aH.mp h).symm
 ·rcases sp b hb with h|rfl
  ·exact .inl h
  ·exact .inr na
theorem yU(i:Nat){x:Str}{p p2:Pos}(hN:X.N.Nodup)(hi:X.N[i]? =some x)(hx:Loc X.env.scope x)(hE:∀l,E.nx (sd.set i<|odG X.prog X.w X.K l [] [] []))(hs:AY (.Dict [] [] p2) (some<|.Name x p) pos.line X.env=pure false:=by rfl)
  (hf:X.fn x=true\/X.env.scope.names.lookup x=some .local:=by first|exact .inl rfl|exact .inr rfl|assumption):PSd1 X sd (.Assign [.Name x p] (.Dict [] [] p2) pos) E:=.mk λσ F H S=>
 (pN hN hi hx aBv hs hf).to λq hq hm=>by
  have fp:F q=none:=S.sub.free hq
  have no:q∉bU sd:=λhl=>by obtain⟨_,ob,h,_⟩:=S.slots.owns hl;rw[hq] at h;cases h
  have S1:StF X.K X.B₀ F (upd H q<|exO q aFO) σ sd:=by
   refine⟨S.base,λb u e=> ?_,mG S.smp q,S.slots.mono (Same.refl _) λl hl=> ?_,S.nd⟩
   ·rw[aR<|cC e fp];exact S.sub _ _ e
   ·obtain⟨n,ys,y,_⟩:=S.slots.owns hl;have hne:l≠q:=cC y hq;exact⟨n,λys e=>by rw[aR hne];exact e⟩
  refine⟨_,F,S1.setT i (uR (P:=X.prog) (w:=X.w) (K:=X.K) (ks:=[]) (ls:=[]) (dss:=[]) (λa ha=>by rw[aH.mp ha];exact fp) bJ (λv z=>by cases z) rfl ⟨cQ _,hm,[],.nil, #[],0,⟨rfl,rfl,rfl⟩,rfl,rfl,cI⟩ trivial) (by simp) λa ha=> ?_,Same.refl _,hE q⟩;rw[aH.mp ha];exact no
theorem xT(i:Nat){x:Str}{p ap1 cp1 p5 ap cp:Pos}(hu:X.A.units+1<AS)(hs:sd[i]? =some (odG X.prog X.w X.K l ks ls dss))(hx:PE X (.Name x p) (iI i))(hb:PEd X sd b (.val (.tup<|k.map kD)))(h:∀z,PEd X (sd.set i z) e<|.val d)(hl:dss.length<=10000)(hl2:∀ds∈dss,ds.length<=10000)
  (hE1:∀n ds,ks[n]? =some k->dss[n]? =some ds->E.nx (sd.set i<|odG X.prog X.w X.K l ks ls (dss.set n<|ds++[d])))
  (hE2:k∉ks->∀a,E.nx<|sd.set i (odG X.prog X.w X.K l (ks++[k]) (ls++[a])<|dss++[[d]]))
  (hm:PE X (.Call (.Attribute (.Call (.Attribute (.Name x p) "setdefault" ap1) [b, .List [] p5] [] cp1) "append" ap) [e] [] cp)
   (tBM X.K "list" tU (λσ H Q=>iI i σ H λx H1=>(∃l ob,x=.ref l/\H1 l=some (exO l ob)/\ob.ExactDict)/\(nV (wE X b) (nV (wE X (.List [] p5)) aFG)) σ H1 λxs H2=>rSD X x xs H2 Q) (nV (wE X e) aFG)):=by exact aIM mQ xQ xR yB (aLH zC tF PySem.F.type_dict_setdefault aOB (pv _) (cY eR (cY eR pa_nil))) (cY eR pa_nil))
  (hsw:AY (.Call (.Attribute (.Call (.Attribute (.Name x p) "setdefault" ap1) [b, .List [] p5] [] cp1) "append" ap) [e] [] cp) none pos.line X.env=pure false:=by rfl):
  PSd1 X sd (.Expr (.Call (.Attribute (.Call (.Attribute (.Name x p) "setdefault" ap1) [b, .List [] p5] [] cp1) "append" ap) [e] [] cp) pos) E:=.mk λσ F H S=>
 (oR hm hsw).to (by
  obtain⟨h1,h2,⟨o,h3,nc,hk,td⟩,h4,h5⟩:=gP S hs;have il:i<sd.length:=(aD.mp hs).1
  have fin:∀ (F2 H2:Hp) (ks2:List (List Key)) (ls2:List BF) (dss2:List (List D)) (n:Nat) (ad:BF) (ds:List D),StF X.K X.B₀ F2 H2 σ (sd.set i<|odG X.prog X.w X.K l ks2 ls2 dss2)->Same F F2->ls2[n]? =some ad->dss2[n]? =some ds->ds.length<=10000->E.nx (sd.set i<|odG X.prog X.w X.K l ks2 ls2 (dss2.set n<|ds++[d]))->
    tyV X.K "list" (.ref ad) H2/\(nV (wE X e) aFG) σ H2 λxs H3=>tU (.ref ad) xs H3 λ_ H4=>(lft X F E).nx σ H4:=λF2 H2 ks2 ls2 dss2 n ad ds S2 s2 hn hd hdl hE=>by
   have hs2:(sd.set i<|odG X.prog X.w X.K l ks2 ls2 dss2)[i]? =some (odG X.prog X.w X.K l ks2 ls2 dss2):=gL il;obtain⟨g1,g2,_,g4,g5⟩:=gP S2 hs2;obtain⟨ds',xs,e1,e2,e3⟩:=g4.get hn;refine⟨.inl ⟨rfl,xs,.of e2⟩,(h _ σ F2 H2 S2).imp λv H3 ⟨F3,S3,s3,q3⟩=> ?_⟩;obtain⟨f1,f2,_,f4,f5⟩:=gP S3 hs2;obtain⟨ds3,xs3,u1,u2,u3⟩:=f4.get hn;rw[hd] at u1;cases u1;have W:=S3.wrG (es:=ds++[d]) (ys:=xs3++[v]) hs2 hn (u3.app<|.one q3);rw[jF] at W;exact⟨ad,xs3,v,rfl,rfl,u2,by rw[u3.len] ;exact eV hdl,_,F3,W,s2.trans s3,hE⟩
  refine⟨.ref l,h1,⟨l,o,rfl,h3,td.2.2.choose_spec.2.choose_spec.choose_spec.1⟩,(hb σ F H S).imp λv1 H1 ⟨F1,S1,s1,q1⟩=>((aAL (ds:=[]) aM (cQ _):PEd X sd (.List [] p5) (.own [])) σ F1 H1 S1).imp λv2 H2 ⟨F2,S2,s2,q2⟩=> ?_⟩;obtain⟨g1,g2,⟨o2,g3,nc2,hk2,td2⟩,g4,g5⟩:=gP S2 hs;simp only[ResOk,Rep] at q1;obtain⟨ad,ys,rfl,ha,rl⟩:=q1;rw[nK rl] at ha;obtain⟨a,xs,rfl,fa,ha2,rl2,na⟩:=q2;have xn:xs=[]:=gI (by rw[rl2.len];rfl);subst xn;have zl:(ks.zip<|ls.map V.ref).length=dss.length:=by rw[jD,aC,<-hk2,oI,hk2,g4.len]
  refine⟨F2,l,ad,k,.ref a,o2,ks.zip<|ls.map V.ref,rfl,rfl,S2.sub,g3,s2 _ _ ha,hu,td2,by rw[zl];have:=eV hl;omega,λz hz=> ?_,λhz o' nc' td'=> ?_⟩
  ·obtain⟨n,e1,e2⟩:=yP hz;rw[aZ] at e2;obtain⟨an,e3,rfl⟩:=eO.mp e2;obtain⟨ds,xs,d1,d2,d3⟩:=g4.get e3;have S2':StF X.K X.B₀ F2 H2 σ (sd.set i<|odG X.prog X.w X.K l ks ls dss):=by rw[aFo hs];exact S2
   exact fin F2 H2 ks ls dss n an ds S2' (s1.trans s2) e3 d1 (hl2 ds<|aY d1)<|hE1 n ds e1 d1
  ·have S3:=S2.newG hs fa ha2 na nc' td';have hE:=hE2 (aDJ (by rw[aC];exact hk2) hz) a;have en:(dss++[[]]).set dss.length ([]++[d])=dss++[[d]]:=by simp
   exact fin F2 _ (ks++[k]) (ls++[a]) (dss++[[]]) dss.length a [] S3 (s1.trans s2) (by rw[<-g4.len];simp) (by simp) (cQ _) (by rw[en];exact hE))
theorem aGg(i:Nat){x:Str}{p:Pos}{as:List BF}{G:V->Hp->Hp->Prop}{G':V->List BF->Hp->Hp->Prop}(hs:sd[i]? =some (.ox as G))(hx:PE X (.Name x p) (iI i))(hG:∀v F H,G v F H->G' v as F H)(hE:E.rt (.ox G')):PSd1 X sd (.Return (some<|.Name x p) pos) E:=.mk λσ F H S=>
 (rW hx).to (by
  obtain⟨o,h1,v,h2,h3,h4⟩:=S.slots.get hs
  exact⟨v,by rw[h1,h2],.ox G',⟨F,S.base,S.sub,S.smp,as,vO S.nd hs,λl hl=>⟨(h3 l hl).1,(h3 l hl).2,by simp[bU]⟩,λF' H' s k=>hG _ _ _ (h4 F' H' s k)⟩,hE⟩)
theorem aFk(i:Nat){x:Str}{p:Pos}(hN:X.N.Nodup)(hi:X.N[i]? =some x)(hx:Loc X.env.scope x)(h:PEd X sd e (goR X.prog X.w X.K ks dss))(hE:E.nx (sd.set i (odF X.prog X.w X.K ks<|dss.map D.lst)))(hs:AY e (some<|.Name x p) pos.line X.env=pure false:=by rfl)
  (hf:X.fn x=true\/X.env.scope.names.lookup x=some .local:=by first|exact .inl rfl|exact .inr rfl|assumption):PSd1 X sd (.Assign [.Name x p] e pos) E:=.mk λσ F H S=>
 (pN hN hi hx eR hs hf).to ((h σ F H S).imp fun v H' ⟨F',S',s',as,nd,q,g⟩=>by
  obtain⟨l,ls,rfl,rfl,⟨o,g1,nc,hk,td⟩,g2⟩:=g F' H' (Same.refl _) λ_ _ _ z=>z
  obtain⟨S2,s2⟩:=S'.inN (λa ha=>(q a ha).1) λa ha=>(q a ha).2.2
  have r2:RepL X.K (inF F' H' (l::ls)) (dss.map D.lst) (ls.map V.ref):=aDG (g2.mono2 s2 fun a ha ob e=>by
   rw[aCQ<|aE _ ha]
   exact e)
  have f1:(inF F' H' (l::ls)) l=some (exO l o):=by rw[aCQ aG];exact g1
  refine⟨_,_,S2.setX (as:=[]) i (v:=.ref l) ⟨.ref l,rfl,λa ha=>(nomatch ha),λF2 H2 s3 _=>⟨l,o,ls.map V.ref,rfl,s3 _ _ f1,r2.mono s3,by rw[aC,hk,g2.len],(td.mono s2).mono s3⟩⟩ cI λa ha=>(nomatch ha),s'.trans s2,hE⟩)
theorem aGb(i:Nat){x:Str}{p:Pos}{n:Nat}(hu:X.A.units+1<AS)(hs:sd[i]? =some (odF X.prog X.w X.K ks ds))(hx:PE X (.Name x p) (iI i))(hb:PEd X sd b (.val (.tup<|k.map kD)))(hn:ks.Nodup)(hk:ks[n]? =some k)(hd:ds[n]? =some d)(hsl:aND b):PEd X sd (.Subscript (.Name x p) b pos) (.val d):=.mk λσ F H S pins s I=>by
 obtain⟨ov,h1,v0,h2,_,h4⟩:=S.slots.get hs;obtain⟨l,o0,xs0,rfl,_⟩:=h4 F H (Same.refl _) λ_ _ _ q=>q
 subst h2;refine aDM xD.lookup hsl<|thn (hx pins s σ H (λv H1=>v=.ref l/\H1=H) I ⟨.ref l,h1,rfl,rfl⟩) λu s1 ⟨y,H1,I1,ry,e1,e2⟩=> ?_;subst e1 e2;obtain rfl:u=Value.ref l:=ry;refine thn (hb σ F H1 S pins s1 I1) λiv s2 ⟨y,H2,I2,ry,F2,S2,sF,q2⟩=> ?_
 obtain⟨ov,j1,v1,j2,_,j4⟩:=S2.slots.get hs;obtain⟨l',o,xs,el,g3,g4,g5,z,hm,ts,kt,es,ep,t1,t2,t3,t4⟩:=j4 F2 H2 (Same.refl _) λ_ _ _ q=>q
 subst j2 el;rw[h1] at j1;cases j1;simp only[ResOk,Rep] at q2;obtain⟨ad,ys,rfl,ha,rl⟩:=q2;rw[nK rl] at ha;obtain rfl:iv=Value.ref ad:=ry;have ho:s2.heap.get? l=some o:=(I2.hok l _<|S2.sub _ _ g3).1;have ktH:KT H2 (ks.zip xs) ts:=kt.keeps λb ys e=>S2.sub _ _ e
 have dd:s2.heap.DictOfH (Af<|eA X.prog X.w) l ts:=⟨o,es,ep,ho,t1,t2,t3,KT.all I2.hok ktH,t4⟩;obtain⟨v,hv,rv⟩:=g4.get hd;obtain⟨w',hw,rw'⟩:=RelO.some_of (v:=v) (o:=(atKey ts k).map (·.2)) (by rw[<-aDu hn hk hv];exact ktH.val k);obtain⟨pr,hp,hp2⟩:=eO.mp hw;refine⟨dd.typeIs,wpAny_getItem_heap (Ad hu) (lU I2.hok<|S2.sub _ _ ha) dd hp ?_⟩;rw[hp2];exact⟨v,H2,I2.tok _,rw',F2,S2,sF,rv⟩
noncomputable def wO(p:Int×Int)(ws:List Int):Nat:=(sR (2^p.1.toNat) ws).toNat
theorem aDj{p:Int×Int}(hp:p∈bW){ws:List Int}(G:Fil p ws):sR (2^p.1.toNat) ws=(wO p ws:Int)/\wO p ws<(bV p).length/\(bV p).getD (wO p ws) []=ws:=by have h:=aHC<|aLC p hp;obtain⟨a,b,c⟩:=aMX h G.len G.wd;refine⟨by unfold wO;omega, ?_,c⟩;show _<(gO _ _).length;rw[h.len];exact b
theorem aHY{p:Int×Int}(hp:p∈bW)(hi:i<(bV p).length):wO p ((bV p).getD i [])=i:=by
 have h:=aHC<|aLC p hp;have hi':i<2^(p.1.toNat*p.2.toNat):=by rw[<-h.len];exact hi
 have:=(h.at_ i hi').2.2.1;unfold wO;show(sR (2^p.1.toNat)<|(gO (2^p.1.toNat) p.2.toNat).getD i []).toNat=i;rw[this];exact dJ i
theorem aHB{p:Int×Int}(hp:p∈bW){L:List SK}(S:StkOk p L){row:List Nat}(h:∀t∈row,t<L.length):xY p (tabQ p L row):=⟨aHs p L row,aGs hp S h⟩
def aOk(A:BG)(s:BE)(x y:BD)(b:Bool):Prop:=∀ (prog:AE) (w:AL) (E:BD->BE->Prop) (Q:BD->BE->Prop),Q (.bool b) s->AK (AG prog w) A (richCompare .Lt x y) Q E s
inductive aFH(A:BG)(s:BE)(fin:Bool):List (BD×BD)->Bool->Prop
 |nil:aFH A s fin [] fin
 |eq {x y:BD}{r:List (BD×BD)}{b:Bool}:SeqAt.EqAt A.in1 s x y true->aFH A s fin r b->aFH A s fin ((x,y)::r) b
 |lt {x y:BD}{r:List (BD×BD)}{b:Bool}:SeqAt.EqAt A.in1 s x y false->aOk A.in1 s x y b->aFH A s fin ((x,y)::r) b
section
open PySem.SeqAt
open PySem.AutoSeq1 (wpAny_loadPart')
open PySem.MeetsSeq PySem.MeetsSeq2 PySem.MeetsSeq3
theorem zN(l b:BF)(items items2:Array BD)(n n2:Nat)(dd dd2:Option BF)(sl sl2:Array (Option BD))(res:Bool):
  Meets (Builtin.«tuple.__lt__» ⟨[.ref l,.ref b],[]⟩)
   (fun A R s=>s.heap.get? l=some {cls:= .type "tuple",dict:=dd,data:= .seq items n,slots:=sl}∧s.heap.get? b=some {cls:= .type "tuple",dict:=dd2,data:= .seq items2 n2,slots:=sl2}∧
    aFH A s (decide (items.size<items2.size)) (items.toList.zip items2.toList) res/\R (.ok (.ret (.bool res))) s):=
 .of_wp λprog w A R s h=>by
  obtain⟨hp,g,d,tk,os⟩:=s;obtain⟨hl,hb,hx,h⟩:=h;have f2:=AutoSeq1.sub_tuple_tuple
  wp_walk using wpAny_loadPart' hl,wpAny_loadPart' hb,wpAny_forIn_list _ (λrest b s'=>b.1=none/\s'=⟨hp,g,d,tk,os⟩/\aFH A ⟨hp,g,d,tk,os⟩ (decide<|items.size<items2.size) rest res) _
  case turn=>
   rintro⟨y,x⟩ rest b s' ⟨hb',rfl,hv⟩;cases hv with
   |eq he hr=>
    refine AA<|he prog w _ _ ?_
    wp_walk
    exact⟨rfl,rfl,hr⟩
   |lt he hlt=>
    refine AA<|he prog w _ _ ?_;have hri:=hlt prog w
    wp_walk using hri
    exact⟨_,rfl,by simpa using h⟩
  case fin=>
   rintro⟨b1,b2⟩ s' ⟨hb',rfl,hv⟩;simp only at hb';subst hb';cases hv
   wp_walk
   exact⟨_,rfl,by simpa[Builtin.Tuple.tupleCompareSizes] using h⟩
  case h=>exact⟨rfl,rfl,hx⟩
theorem aBN{A:BG}{s:BE}{l b:BF}{items items2:Array BD}{res:Bool}(hl:IsTup s.heap l items)(hb:IsTup s.heap b items2)(hx:aFH A s (decide<|items.size<items2.size) (items.toList.zip items2.toList) res)
  (hu:A.units<AS):aOk A s (.ref l) (.ref b) res:=λprog w E Q h=>by
 obtain⟨⟨cls,dd,data,sl⟩,ho,hc,n,hd⟩:=id hl;obtain⟨⟨cls2,dd2,data2,sl2⟩,ho2,hc2,n2,hd2⟩:=id hb;simp only at hc hd hc2 hd2;subst hc hd hc2 hd2
 exact richCompare_meets_room (op:= .Lt) ⟨_,ho,rfl⟩ ⟨_,ho2,rfl⟩ PySem.F.slot_tuple_lt PySem.F.entry_tuple_lt (PySem.F.args_tuple_lt_2 _ _) (zN l b items items2 n n2 dd dd2 sl sl2 res)
  ⟨ho,ho2,hx,show Value.bool res≠Value.notImplemented/\Q (.bool res) s from⟨(λx=>nomatch x),h⟩⟩ hu
end
mutual
noncomputable def dlt:D->D->Bool
 |.int a,.int b=>decide<|a<b
 |.tup a,.tup b=>pB a b
 |_,_=>false
noncomputable def pB:List D->List D->Bool
 |[],[]=>false
 |[],_::_=>true
 |_::_,[]=>false
 |d::ds,e::es=>if deq d e=true then pB ds es else dlt d e
end
mutual
noncomputable def qY:D->D->Bool
 |.int _,.int _=>true
 |.tup a,.tup b=>xH a b
 |_,_=>false
noncomputable def xH:List D->List D->Bool
 |[],_=>true
 |_::_,[]=>true
 |d::ds,e::es=>qY d e&&xH ds es
end
mutual
theorem aIj(hok:HOk P w H s.heap):∀ (d:D) {d2:D}{v1 v2:V}{u1 u2:BD}{A:BG},qY d d2=true->pl d=true->pl d2=true->Rep K H d v1->Rep K H d2 v2->RelV v1 u1->RelV v2 u2->A.units+dep d<AS->aOk A s u1 u2 (dlt d d2)
 |.int a,d2,v1,v2,u1,u2,A,c,p1,p2,r1,r2,ru1,ru2,hu=>by
  cases d2 with
  |int b=>simp only[Rep] at r1 r2;subst r1 r2;obtain⟨t,rfl⟩:=ru1;obtain⟨t2,rfl⟩:=ru2;simp only[dlt];exact λprog w E Q h=>(PyProof.Rows.lt_int h:AK (AG prog w) A (AW .Lt (.int a t)<|.int b t2) Q E s)
  |_=>simp[qY] at c
 |.tup ds,d2,v1,v2,u1,u2,A,c,p1,p2,r1,r2,ru1,ru2,hu=>by
  cases d2 with
  |tup es=>
   obtain⟨a,xs,its,rfl,rfl,rl,rv,ht⟩:=iJ hok r1 ru1;obtain⟨b,ys,jts,rfl,rfl,rl2,rv2,ht2⟩:=iJ hok r2 ru2;simp only[dlt];have l1:its.length=ds.length:=by rw[<-rv.length,rl.len]
   have l2:jts.length=es.length:=by rw[<-rv2.length,rl2.len]
   simp only[pl] at p1 p2;simp only[dep] at hu;simp only[qY] at c;refine aBN ht ht2 ?_ (by omega);exact aDd hok ds c p1 p2 rl rl2 rv rv2 (by omega) (by simp[l1,l2])
  |_=>simp[qY] at c
 |.non,d2,_,_,_,_,_,c,_,_,_,_,_,_,_=>by cases d2<;>simp[qY] at c
 |.bl _,d2,_,_,_,_,_,c,_,_,_,_,_,_,_=>by cases d2<;>simp[qY] at c
 |.str _,d2,_,_,_,_,_,c,_,_,_,_,_,_,_=>by cases d2<;>simp[qY] at c
 |.lst _,d2,_,_,_,_,_,c,_,_,_,_,_,_,_=>by cases d2<;>simp[qY] at c
 |.dic,d2,_,_,_,_,_,c,_,_,_,_,_,_,_=>by cases d2<;>simp[qY] at c
 |.dki _ _,d2,_,_,_,_,_,c,_,_,_,_,_,_,_=>by cases d2<;>simp[qY] at c
 |.any _,d2,_,_,_,_,_,c,_,_,_,_,_,_,_=>by cases d2<;>simp[qY] at c
 |.scr _,d2,_,_,_,_,_,c,_,_,_,_,_,_,_=>by cases d2<;>simp[qY] at c
theorem aDd(hok:HOk P w H s.heap):∀ (ds:List D) {es:List D}{xs ys:List V}{its jts:List BD}{A:BG}{fin:Bool},xH ds es=true->plL ds=true->plL es=true->RepL K H ds xs->RepL K H es ys->Vals xs its->Vals ys jts->A.units+1+lA ds<AS->fin=decide (ds.length<es.length)->aFH A s fin (its.zip jts) (pB ds es)
 |[],es,xs,ys,its,jts,A,fin,c,p1,p2,r1,r2,v1,v2,hu,hf=>by
  simp only[RepL] at r1;subst r1;cases v1;subst hf;rw[List.zip_nil_left];cases es with
  |nil=>exact .nil
  |cons e es=>
   have:pB [] (e::es)=decide (([]:List D).length<(e::es).length):=by simp[pB]
   rw[this];exact .nil
 |d::ds,[],xs,ys,its,jts,A,fin,c,p1,p2,r1,r2,v1,v2,hu,hf=>by
  simp only[RepL] at r2;subst r2;cases v2;subst hf;rw[List.zip_nil_right];have:pB (d::ds) []=decide ((d::ds).length<([]:List D).length):=by simp[pB]
  rw[this];exact .nil
 |d::ds,e::es,xs,ys,its,jts,A,fin,c,p1,p2,r1,r2,v1,v2,hu,hf=>by
  obtain⟨x,xs,rfl,a1,r1⟩:=r1.uncons;obtain⟨y,ys,rfl,a2,r2⟩:=r2.uncons;simp only[plL,bO] at p1 p2;simp only[xH,bO] at c;simp only[lA] at hu;cases v1 with
  |cons q1 v1=>
   cases v2 with
   |cons q2 v2=>
    rw[cW];have he:=rN (A:=A.in1) hok d p1.1 p2.1 a1 a2 q1 q2 (by show A.units+1+dep d<AS;omega);simp only[pB]
    by_cases z:deq d e=true
    ·rw[if_pos z];rw[z] at he;exact .eq he (aDd hok ds c.2 p1.2 p2.2 r1 r2 v1 v2 (by omega)<|by rw[hf];simp)
    ·rw[if_neg z];rw[aIz.mpr z] at he;exact .lt he (aIj (A:=A.in1) hok d c.1 p1.1 p2.1 a1 a2 q1 q2<|by show A.units+1+dep d<AS;omega)
end
section
variable {prog:AE}{w:AL}{A:BG}{E:BD->BE->Prop}{s:BE}
open HT
end
theorem aJx(d:D)(ds:List D)(p1:pl d=true)(p2:plL ds=true)(hu:X.A.units+1+lA ds<AS):OpR X (AW .In) (λx y H Q=>Rep X.K H (.tup ds) y/\Rep X.K H d x/\Q (.bl<|ds.any λz=>deq z d) H):=by
 intro pins s σ H x y v u Q I rx ry h;obtain⟨hl,hd,k⟩:=h;obtain⟨a,xs,its,rfl,rfl,rl,rv,ht⟩:=iJ I.hok hl ry
 have hat:∀ (j:Nat) (w:BD),its[j]? =some w->∃z v,ds[j]? =some z/\xs[j]? =some v/\Rep X.K H z v/\RelV v w:=λj w hw=>by
  have hj:j<its.length:=(aD.mp hw).1;have hx:j<xs.length:=by rw[Vals.length rv];exact hj
  have hd:j<ds.length:=by rw[<-rl.len];exact hx
  obtain⟨v,hv,rz⟩:=rl.get (i:=j) (d:=ds[j]) (by simp[hd])
  exact ⟨ds[j],v,by simp [hd],hv,rz,by
   have:=rv.get hv;obtain⟨w',hw',r⟩:=this;rw[hw] at hw';cases hw'
   exact r⟩
 have dc:=λw:BD=>Classical.propDecidable (∃ (j:Nat) (z:D),its[j]? =some w/\ds[j]? =some z/\deq z d=true)
 refine SeqAt.in_tupleAt (λw=> @decide _<|dc w) ht (λw hw=> ?_) ⟨.bl _,H,I,rfl, ?_⟩
 ·by_cases q:∃ (j:Nat) (z:D),its[j]? =some w/\ds[j]? =some z/\deq z d=true
  ·obtain⟨j,z,e1,e2,e3⟩:=q;obtain⟨z',v,f1,f2,f3,f4⟩:=hat j w e1;rw[e2] at f1;cases f1;have: @decide _ (dc w)=true:=by rw[decide_eq_true_eq];exact⟨j,z,e1,e2,e3⟩
   rw[this,<-e3];exact rN I.hok z (qW p2 e2) p1 f3 hd f4 rx (by have:=nL e2;show X.A.units+1+dep z<AS;omega)
  ·have hw':w∈its:=by simpa using hw
   obtain⟨j,hj,rfl⟩:=eU hw';obtain⟨z,v,f1,f2,f3,f4⟩:=hat j its[j] (by simp[hj])
   have e3:deq z d=false:=by
    cases h:deq z d with
    |false=>rfl
    |true=>exact(q ⟨j,z,by simp[hj],f1,h⟩).elim
   have: @decide _ (dc its[j])=false:=by rw[decide_eq_false_iff_not];exact q
   rw[this,<-e3];exact rN I.hok z (qW p2 f1) p1 f3 hd f4 rx (by have:=nL f1;show X.A.units+1+dep z<AS;omega)
 ·have e:its.toArray.any (λw=> @decide _<|dc w)=ds.any λz=>deq z d:=by
   rw[gQ,aKS,jX,jX]
   constructor
   ·rintro⟨w,hw,q⟩;rw[decide_eq_true_eq] at q;obtain⟨j,z,e1,e2,e3⟩:=q;exact⟨z,aY e2,e3⟩
   ·rintro⟨z,hz,e3⟩;obtain⟨j,hj,rfl⟩:=eU hz;have hi:j<its.length:=by rw[<-Vals.length rv,rl.len];exact hj
    exact⟨its[j],iM hi,by rw[decide_eq_true_eq];exact⟨j,ds[j],by simp[hi],by simp[hj],e3⟩⟩
  rw[e];exact k
theorem aHc(ha:PEd X sd a (.val d))(hb:PEd X sd b (.val<|.tup ds))(p1:pl d=true)(p2:plL ds=true)(hu:X.A.units+1+lA ds<AS)(hk:AU .In b=false:=by with_unfolding_all rfl):PTd X sd (.Compare a [.In] [b] pos) (ds.any λz=>deq z d):=
 kZ (aJx d ds p1 p2 hu) ha hb trivial hk λσ F H x u Q S q1 q2 k=>⟨Rep.mono S.sub q2,Rep.mono S.sub q1,k F H S<|Same.refl _⟩
noncomputable def kY(ws:List Int):List Key:=ws.map Sum.inl
theorem aPc(ws:List Int):D.tup ((kY ws).map kD)=bP ws:=by unfold kY bP;rw[aV];rfl
theorem aHz{a b:List Int}(h:kY a=kY b):a=b:=by have:=congrArg (List.map λk:Key=>match k with | .inl i=>i | .inr _=>(0:Int)) h;unfold kY at this;rw[aV,aV] at this;have e:((λk:Key=>match k with | .inl i=>i | .inr _=>(0:Int)) ∘ Sum.inl)=id:=rfl;rw[e,kI,kI] at this;exact this
noncomputable def oB(ks:List (List Int))(w:List Int):List (List Int):=if w∈ks then ks else ks++[w]
noncomputable def iX(W:List (List Int)):List (List Int):=W.foldl oB []
theorem aFg(W:List (List Int))(w:List Int):iX (W++[w])=oB (iX W) w:=by unfold iX;rw[fG];rfl
theorem aKF{ks:List (List Int)}(nd:ks.Nodup)(w:List Int):(oB ks w).Nodup/\∀k,k∈oB ks w↔k∈ks\/k=w:=by
 unfold oB
 split
 ·rename_i h;exact⟨nd,λk=>⟨.inl,λq=>q.elim id λe=>e▸h⟩⟩
 ·rename_i h;refine⟨bE.mpr ⟨nd,by simp,λa ha b hb e=>h<|aH.mp hb▸e▸ha⟩,λk=> ?_⟩;rw[aU,aH]
theorem uB:∀ (W ks:List (List Int)),ks.Nodup->(W.foldl oB ks).Nodup/\∀k,k∈W.foldl oB ks↔k∈ks\/k∈W
 |[],ks,nd=>⟨nd,λk=>by simp⟩
 |w::W,ks,nd=>by obtain⟨n1,m1⟩:=aKF nd w;obtain⟨n2,m2⟩:=uB W (oB ks w) n1;refine⟨n2,λk=> ?_⟩;show k∈W.foldl oB (oB ks w)↔_;rw[m2 k,m1 k,bA,or_assoc]
theorem uV(W:List (List Int)):(iX W).Nodup:=(uB W [] cI).1
theorem aBl{W:List (List Int)}{k:List Int}:k∈iX W↔k∈W:=by have:=(uB W [] cI).2 k;unfold iX;rw[this];simp
theorem aGw(W:List (List Int)):(iX W).length<=W.length:=by
 have:∀ (W ks:List (List Int)),(W.foldl oB ks).length<=ks.length+W.length:=λW=>by
  induction W with
  |nil=>intro ks;exact aJ _
  |cons w W ih=>
   intro ks;refine cD (ih<|oB ks w) ?_
   have:(oB ks w).length<=ks.length+1:=by
    unfold oB
    split
    ·omega
    ·rw[aN];exact aJ _
   rw[bD];omega
 have h:=this W [];rw[fX,oJ] at h;exact h
noncomputable def sS(h:List Int->List Int)(A:List (List Int))(k:List Int):List (List Int):=A.filter λg=>decide<|h g=k
noncomputable def mU(h:List Int->List Int)(A:List (List Int))(ks:List (List Int)):List (List D):=ks.map λk=>(sS h A k).map bP
theorem qB(h:List Int->List Int)(A:List (List Int))(f k:List Int):sS h (A++[f]) k=sS h A k++if h f=k then[f] else[]:=by
 unfold sS;rw[rC]
 by_cases e:h f=k
 ·simp[e]
 ·simp[e]
theorem aHi{h:List Int->List Int}{A:List (List Int)}{k:List Int}(hn:∀g∈A,h g≠k):sS h A k=[]:=by unfold sS;rw[List.filter_eq_nil_iff];exact λg hg=>by simp[hn g hg]
theorem aKf{h:List Int->List Int}{A ks:List (List Int)}{f:List Int}{n:Nat}(nd:ks.Nodup)(hk:ks[n]? =some (h f))(hd:(mU h A ks)[n]? =some ds):(mU h A ks).set n (ds++[bP f])=mU h (A++[f]) ks:=by
 have hd':ds=(sS h A<|h f).map bP:=by unfold mU at hd;rw[aZ,hk] at hd;exact(bM.inj hd).symm
 subst hd';refine mM λm=> ?_
 have hn:n<ks.length:=(aD.mp hk).1;have ek:ks[n]=h f:=(aD.mp hk).2
 by_cases e:m=n
 ·subst e;rw[gL<|by unfold mU;rw[aC];exact hn];unfold mU;rw[aZ,hk,tY,qB,if_pos rfl,bK];rfl
 ·rw[iE<|Ne.symm e];unfold mU;rw[aZ,aZ];cases q:ks[m]? with
  |none=>rfl
  |some k=>
   have hm:m<ks.length:=(aD.mp q).1;have eq:ks[m]=k:=(aD.mp q).2;have ne:¬ h f=k:=λz=>e ((jW (h₀:=hm) (h₁:=hn) nd).mp<|by rw[eq,ek,z])
   rw[tY,tY,qB,if_neg ne,bG]
theorem aJY{h:List Int->List Int}{A ks:List (List Int)}{f:List Int}(hn:h f∉ks)(hA:∀g∈A,h g∈ks):mU h A ks++[[bP f]]=mU h (A++[f]) (ks++[h f]):=by
 unfold mU;rw[bK];congr 1
 ·refine cF λk hk=> ?_
  rw[qB,if_neg (λz:h f=k=>hn<|z▸hk),bG]
 ·rw[aW,eF,qB,if_pos rfl,aHi (λg hg (e:h g=h f)=>hn<|e▸hA g hg)];rfl
def aOr(P:AE)(w:AL)(K:aA):List D->R->Prop:=λds r=>∃ (p:Int×Int) (h:List Int->List Int),p∈bW/\ds=[cJ p,.lst<|((bV p).map h).map bP]/\r=goR P w K ((iX<|(bV p).map h).map kY) (mU h (bV p) (iX<|(bV p).map h))
def aDc:List D->R->Prop:=λds r=>∃ (p:Int×Int) (bs:List Nat) (T:List (List Int)),p∈bW/\bs.length<=100/\(∀b∈bs,b<p.2.toNat)/\xY p T/\ds=[.lst<|bT bs,.tup<|T.map bP]/\r=.own ((T.map<|wdQ bs).map bP)
noncomputable def wnQ(p:Int×Int)(L:List SK)(row:List Nat)(pl mn:Nat)(bs:List Nat)(f:List Int):Option (List<|List Int):=if f∈tabQ p L (row.take pl) then some (sS (λg=>wdQ bs<|gN p L (row.drop<|pl+mn) g) (bV p) (wdQ bs<|gN p L (row.drop pl) f)) else none
noncomputable def waQ(p:Int×Int)(L:List SK)(row:List Nat)(pl mn:Nat)(bs:List Nat):List (Option (List<|List Int)):=(bV p).map<|wnQ p L row pl mn bs
def aLp:List D->R->Prop:=λds r=>∃ (p:Int×Int) (L:List SK) (row:List Nat) (pl mn:Nat) (o:Option (List Nat)),p∈bW/\StkOk p L/\(∀t∈row,t<L.length)/\row.length<=100/\1<=mn/\pl+mn<=row.length/\aLa p o/\ds=[cJ p,.lst<|L.map skD,.tup<|bT row,.int (pl:Int),.int (mn:Int),lkD o]/\r=.own ((waQ p L row pl mn<|bxQ p.2.toNat o).map wsD)
theorem aBi(p:Int×Int)(L:List SK)(a b:List Nat)(ws:List Int):gN p L (a++b) ws=gN p L b (gN p L a ws):=by unfold gN;rw[fG]
theorem vD(row:List Nat)(pl mn:Nat):row.drop pl=(row.drop pl).take mn++row.drop (pl+mn):=by rw[<-yZ];exact(fP mn _).symm
theorem aNg{p:Int×Int}(hp:p∈bW){L:List SK}(S:StkOk p L){row:List Nat}(hrow:∀t∈row,t<L.length)(pl mn:Nat)(bs:List Nat){f g:List Int}(G:Fil p f)(Gg:Fil p g):g∈sS (λg=>wdQ bs<|gN p L (row.drop<|pl+mn) g) (bV p) (wdQ bs<|gN p L (row.drop pl) f)↔wdQ bs (gN p L (row.drop<|pl+mn) g)=wdQ bs (gN p L (row.drop<|pl+mn)<|gN p L ((row.drop pl).take mn) f):=by
 unfold sS;have e:gN p L (row.drop pl) f=gN p L (row.drop<|pl+mn) (gN p L ((row.drop pl).take mn) f):=by rw[<-aBi,<-vD]
 rw[fV,e]
 constructor
 ·exact λh=>of_decide_eq_true h.2
 ·exact λh=>⟨tR Gg.len Gg.wd,decide_eq_true h⟩
theorem aOW{p:Int×Int}(hp:p∈bW){L:List SK}(S:StkOk p L){row:List Nat}(hrow:∀t∈row,t<L.length)(pl mn:Nat)(bs:List Nat):aAI p (waQ p L row pl mn bs):=by
 refine⟨by unfold waQ;rw[aC],λo ho M hM=> ?_⟩;obtain⟨f,hf,rfl⟩:=aQ.mp ho;have G:=lJ hp hf;unfold wnQ at hM
 split at hM
 ·cases hM;have f9:(bV p).length<=64:=kM hp;have Gm:=nN S ((row.drop pl).take mn) f (λt ht=>hrow t (dP<|dQ ht)) G;exact⟨List.length_pos_of_mem<|(aNg hp S hrow pl mn bs G Gm).mpr rfl,cD (jV _ _)<|by omega,λws hw=>lJ hp (fV.mp hw).1⟩
 ·cases hM
theorem aGA{ks:List (List Int)}(h:ks.Nodup):(ks.map kY).Nodup:=List.Pairwise.map kY (λa b q e=>q<|aHz e) h
noncomputable def enF(F:List Int->D):D->D
 |.tup [_,g]=>F<|kA g
 |_=>.non
theorem aJJ(p:Int×Int)(F:List Int->D):(lI<|(bV p).map bP).map (enF F)=(bV p).map F:=by
 unfold lI;rw[aV,aC];refine tX (by simp) λm h1 h2=> ?_
 have hm:m<(bV p).length:=by simpa using h2
 simp only[eG,aHu,Function.comp];have:((bV p).map bP).getD m .non=bP (bV p)[m]:=by simp[cK,hm]
 rw[this];show F (kA<|bP _)=_;rw[gW]
theorem aET(row:List Nat)(k:Nat):(bT row).take k=bT (row.take k):=by unfold bT;rw[kE]
theorem yI(row:List Nat)(k:Nat):(bT row).drop k=bT (row.drop k):=by unfold bT;rw[kG]
theorem aBw(a:List Nat):(bT a).length=a.length:=by unfold bT;rw[aC]
noncomputable def xU(h:BH)(a:BF):BH:=h.update a λo=>{o with data:=.freed}
noncomputable def oA(h:BH)(S:List BF):BH:=S.foldl xU h
theorem aAA(h:BH){a b:BF}(ne:b≠a):(xU h a).get? b=h.get? b:=cP _ _<|Ne.symm ne
theorem aCc(h:BH)(a:BF):(xU h a).get? a=none:=by
 cases h;simp only[xU,Heap.update,Heap.get?,aCA,if_true]
 split
 ·rfl
 ·rename_i hx;generalize hq:Option.map _ _=q at hx ⊢;cases q with
  |none=>rfl
  |some o=>obtain⟨o',h1,h2⟩:=eO.mp hq;exact(hx _ _ _<|by rw[<-h2]).elim
theorem kX:∀ {S:List BF}{h:BH}{a:BF},a∉S->(oA h S).get? a=h.get? a
 |[],_,_,_=>rfl
 |b::S,h,a,hn=>by show(oA (xU h b) S).get? a=_;rw[kX λz=>hn<|aE _ z,aAA h (λz:a=b=>hn<|z▸aG)]
theorem jU:∀ {S:List BF}{h:BH}{a:BF},a∈S->(oA h S).get? a=none
 |b::S,h,a,hm=>by
  show(oA (xU h b) S).get? a=none
  by_cases hs:a∈S
  ·exact jU hs
  ·have e:a=b:=(bA.mp hm).resolve_right hs;subst e;rw[kX hs,aCc]
theorem qS{S:List BF}{h:BH}{a:BF}{o:BI}(q:(oA h S).get? a=some o):a∉S/\h.get? a=some o:=by
 have hn:a∉S:=λz=>by rw[jU z] at q;cases q
 exact⟨hn,by rw[kX hn] at q;exact q⟩
theorem oS{h base base':BH}:∀ {l:List Env},h.FunFrames base l->(∀b∈l.filterMap (·.frame),base'.get? b=none)->h.FunFrames base' l
 |[],_,_=>trivial
 |env::rest,hl,hb=>by
  obtain⟨hk,⟨L,o,hf,hn,ho,hd⟩,hr⟩:=hl;have e:(env::rest).filterMap (·.frame)=L::rest.filterMap (·.frame):=by rw[iU,hf]
  rw[e] at hb;exact⟨hk,⟨L,o,hf,hb L aG,ho,hd⟩,oS hr λb hm=>hb b<|aE _ hm⟩
theorem nX{h:BH}{a:BF}{o:HO}(x:ObjOk P w H h a o):∃ob,h.get? a=some ob:=by
 cases o with
 |lst xs=>obtain⟨_,_,_,_,e⟩:=x;exact⟨_,e⟩
 |tup xs=>obtain⟨_,_,_,ob,e,_⟩:=x;exact⟨_,e⟩
 |dK kvs=>obtain⟨_,_,_,_,o,_,_,e,_⟩:=x;exact⟨_,e⟩
 |dT kvs=>obtain⟨_,_,_,_,o,_,_,e,_⟩:=x;exact⟨_,e⟩
 |set S n=>obtain⟨o,_,_,_,e,_⟩:=x;exact⟨_,e⟩
 |ins C dx fs=>obtain⟨_,_,_,e,_⟩:=x;exact⟨_,e⟩
 |own y=>obtain⟨_,e⟩:=x;exact⟨_,e⟩
 |xd fs=>obtain⟨_,⟨_,_,_,e,_⟩,_⟩:=x;exact⟨_,e⟩
 |rng lo hi=>obtain⟨_,_,_,e⟩:=x;exact⟨_,e⟩
 |frz ob u=>obtain⟨e,_⟩:=x;exact⟨_,e⟩
 |tbl ps=>exact⟨_,(show h.get? a=some _ from x)⟩
 |met f y=>exact⟨_,(show h.get? a=some _ from x)⟩
 |ext φ=>obtain⟨_,⟨_,e⟩,_⟩:=x;exact⟨_,e⟩
structure Exc(h0 h:BH)(H:Hp)(a T:BF)(cls:BD):Prop where
 free:H a=none
 new:h0.get? a=none
 freeT:H T=none
 newT:h0.get? T=none
 obj:∃oe vs oT ts a0,h.get? a=some oe/\(oe.cls=cls/\vs[0]? =some a0)/\oe.data=.fields vs/\vs[1]? =some (.ref T)/\T≠a/\h.get? T=some oT/\oT.data=.fields ts/\ts[3]? =some .none
noncomputable def CX1(P:AE)(w:AL)(cls:BD):CXT:=λouter H s E e s'=>∃a T H',e=.ref a/\s'.os=s.os/\AllBare s'.gens/\Un (frs outer) [] H H' s.heap s'.heap/\HOk P w H' s'.heap/\Exc s.heap s'.heap H' a T cls/\E (.ref a) (some a) H'
variable {h':BH}{a T:BF}{cls a0:BD}{S:List BF}{E:XK}
theorem aDE(I:Inv X pins σ H s)(hex:X.ex=[])(hst:X.stack=X.env::X.outer/\X.env.frame=some X.env.locals)(hS:∀b∈S,H b=none/\X.s₀.heap.get? b=none)(ha:a∈S)(L:Heap.LeftW (oA s.heap<|frs X.stack++S) X.stack a cls a0 s.heap h')(hE:E (.ref a) (some a) H):
  CX1 X.prog X.w cls X.outer X.H₀ X.s₀ E (.ref a) {s with heap:=h'}:=by
 obtain⟨k1,k2,⟨oe,vs,T,oT,ts,he,hc,hd,h1,hnT,hTe,hT,hdT,h3⟩,k4⟩:=L
 have fr:frs X.stack=X.env.locals::frs X.outer:=by unfold frs;rw[hst.1,iU,hst.2]
 have out:∀b o,X.s₀.heap.get? b=some o->b∉frs X.outer->b∉frs X.stack++S:=λb o q hb hm=>by
  rcases aU.mp hm with hm|hm
  ·rw[fr] at hm
   rcases bA.mp hm with e|hm
   ·have:=I.ok.above;have lt:=aP q;rw[e] at lt;exact absurd lt<|oH.mpr this
   ·exact hb hm
  ·rw[(hS b hm).2] at q;cases q
 have stay:∀b o,b∉frs X.stack++S->s.heap.get? b=some o->h'.get? b=some o:=λb o hb q=>k1 b o (by rw[kX hb];exact q)
 have nex:∀b,b∉X.ex:=λb hb=>by rw[hex] at hb;cases hb
 have slot:∀b o,X.s₀.heap.get? b=some o->X.H₀ b=none->b∈frs X.outer->∃sl,h'.get? b=some {o with slots:=sl}:=λb o q n hb=>by obtain⟨sl,q1⟩:=I.base.slot b o q n hb<|nex b;obtain⟨_,o',q2,nf⟩:=I.ok.funs.mem hb;rw[q] at q2;cases q2;obtain⟨sl2,q3⟩:=k4 b _ q1 nf;exact⟨sl2,q3⟩
 have tr:∀b u,H b=some u->b∉frs X.stack++S:=λb u e hm=>by
  rcases aU.mp hm with hm|hm
  ·rw[I.env0.frf b hm] at e;cases e
  ·rw[(hS b hm).1] at e;cases e
 have Tn:s.heap.get? T=none\/T∈S:=by
  by_cases hm:T∈frs X.stack++S
  ·rcases aU.mp hm with hm|hm
   ·obtain⟨_,o,q,nf⟩:=k2.mem hm;rw[hT] at q;cases q;exact(nf ts hdT).elim
   ·exact .inr hm
  ·rw[kX hm] at hnT;exact .inl hnT
 refine⟨a,T,H,rfl,I.os,I.bare,⟨λb o q n hb _=>stay b o (out b o q hb) (I.base.keep b o q n hb<|nex b),λb o q n hb _=>slot b o q n hb,λb o q n _=>I.base.free b o q n<|nex b,λb o q _=> ?_,I.base.tups,I.base.frzs,I.base.tbls⟩,λb u e=> ?_,⟨(hS a ha).1,(hS a ha).2, ?_, ?_,oe,vs,oT,ts,a0,he,hc,hd,h1,hTe,hT,hdT,h3⟩,hE⟩
 ·by_cases hb:b∈frs X.outer
  ·obtain⟨sl,q2⟩:=slot b o q (I.ok.frf b hb) hb;exact⟨_,q2⟩
  ·obtain⟨o1,q1⟩:=I.base.there b o q<|nex b;exact⟨o1,stay b o1 (out b o q hb) q1⟩
 ·refine(I.hok b u e).stay (λc v hc q=>stay c v ?_ q) (λ_ q=>q) λ_ _ q=>q
  rcases hc with z|z
  ·rw[z];exact tr b u e
  ·exact tr c _ z
 ·rcases Tn with q|q
  ·cases g:H T with
   |none=>rfl
   |some u=>obtain⟨ob,q2⟩:=nX<|I.hok T u g;rw[q] at q2;cases q2
  ·exact(hS T q).1
 ·rcases Tn with q|q
  ·cases g:X.s₀.heap.get? T with
   |none=>rfl
   |some o=>obtain⟨o1,q1⟩:=I.base.there T o g<|nex T;rw[q] at q1;cases q1
  ·exact(hS T q).2
theorem aFp{args:List BD}{Ex:BD->BE->Prop}(I:Inv X pins σ H s)(hex:X.ex=[])(hst:X.stack=X.env::X.outer/\X.env.frame=some X.env.locals)(m:Heap.MadeExcOf s.heap h' a cls args)(hE:E (.ref a) (some a) H):
  AK (AG X.prog X.w) X.A (leaving X.env<|.ref a) (λ_ s''=>CX1 X.prog X.w cls X.outer X.H₀ X.s₀ E (.ref a) s'') Ex {s with heap:=h'}:=by
 obtain⟨t,he,ht,_⟩:=m.there;have I':Inv X pins σ H {s with heap:=h'}:=I.kept (t':=s.toks) m.keeps
 have Ha:H a=none:=by
  cases g:H a with
  |none=>rfl
  |some u=>obtain⟨ob,q⟩:=nX<|I.hok a u g;rw[m.new] at q;cases q
 have sa:X.s₀.heap.get? a=none:=by
  cases g:X.s₀.heap.get? a with
  |none=>rfl
  |some o=>obtain⟨o1,q1⟩:=I.base.there a o g (λhb=>by rw[hex] at hb;cases hb);rw[m.new] at q1;cases q1
 have hS:∀b∈[a],H b=none/\X.s₀.heap.get? b=none:=λb hb=>by rw[aH.mp hb];exact⟨Ha,sa⟩
 have fu:Heap.FunFrames h' (oA h'<|frs X.stack++[a]) X.stack:=oS I'.env0.funs λb hb=>jU<|bL _ hb
 have fm:=I'.ok.frames;rw[hst.1] at fm;have fu2:=fu;rw[hst.1] at fu2;refine wpAny_leaving_firstW (base:=oA h'<|frs X.stack++[a]) fm (by rw[hst.1];exact fu2) hst.2 he (λb o q=>(qS q).2) (jU (aI _<|bX a)) rfl rfl rfl λh'' L=> ?_
 rw[<-hst.1] at L;exact aDE I' hex hst hS (bX a) L hE
theorem wK{Ex:BD->BE->Prop}(I:Inv X pins σ H s)(hex:X.ex=[])(hst:X.stack=X.env::X.outer/\X.env.frame=some X.env.locals)(x:Exc X.s₀.heap s.heap H a T cls)(hE:E (.ref a) (some a) H):
  AK (AG X.prog X.w) X.A (leaving X.env<|.ref a) (λ_ s''=>CX1 X.prog X.w cls X.outer X.H₀ X.s₀ E (.ref a) s'') Ex s:=by
 obtain⟨f1,n1,HT,nT,oe,vs,oT,ts,a0,he,hc,hd,h1,hTe,hT,hdT,h3⟩:=x
 have hS:∀b∈[a,T],H b=none/\X.s₀.heap.get? b=none:=λb hb=>by
  simp only[bA,eX,or_false] at hb
  rcases hb with rfl|rfl
  ·exact⟨f1,n1⟩
  ·exact⟨HT,nT⟩
 have fu:Heap.FunFrames s.heap (oA s.heap<|frs X.stack++[a,T]) X.stack:=oS I.env0.funs λb hb=>jU<|bL _ hb
 have fm:=I.ok.frames;rw[hst.1] at fm;have fu2:=fu;rw[hst.1] at fu2;have ca:(oA s.heap<|frs X.stack++[a,T]).get? a=none:=jU (aI _<|by simp);have cT:(oA s.heap<|frs X.stack++[a,T]).get? T=none:=jU (aI _<|by simp);refine wpAny_leaving_nextW (base:=oA s.heap<|frs X.stack++[a,T]) (cls:=cls) (a0:=a0) fm (by rw[hst.1];exact fu2) hst.2 ⟨oe,vs,T,oT,ts,he,hc,hd,h1,cT,hTe,hT,hdT,h3⟩ (λb o q=>(qS q).2) ca λh'' L=> ?_
 rw[<-hst.1] at L;exact aDE I hex hst hS (by simp) L hE
end DL
namespace DL
open PySem PySem.Spec PySem.Calls PySem.W PyProof.Rows Builtin Builtin.Getset_descriptor Builtin.ObjectAttr
variable {prog:AE}{w:AL}{A:BG}{E:BD->BE->Prop}{h:BH}{g:Array GenState}{d:Drawn}{t:Nat}{os:OsState}{a C:BF}{K:Frag}
def ExA(a C:BF)(h:BH):Prop:=∃o,h.get? a=some o/\o.cls=.ref C
theorem ExA.type{M:Model}(I:ExA a C h):Looks M h (typeOf<|.ref a) (.ref C):=by obtain⟨o,h1,h2⟩:=I;exact h2▸(Looks.ld h1).andThen .now
theorem aMI{tp:BD}{R:Result->BE->Prop}{s:BE}(X:K.In s.heap)(I:ExA a C s.heap)(hm:mroIn K C (.type "object")=some true)
  (h:R (.ok (.ret<|.ref C)) s):Az (AG prog w) A (.call (.builtin "getset_descriptor.__get__") ⟨[.builtin "object.__class__",.ref a,tp],[]⟩) R s:=by
 obtain⟨hh,g,dr,t,os⟩:=s;have L0:=I.type (M:=AG prog w);have L1:=looks_mroIn (M:=AG prog w) X hm;refine codeAny_call_builtin KF.slot_gs.plain KF.entry_gs<|KF.slot_gs.check _ _ _ _ _ _ _ _ KF.type_class (KF.args_gs _ _ _) ?_;unfold Builtin.«getset_descriptor.__get__» descrGet;rw[dga_obj];refine AA<|AC ?_;unfold descrGetter descrCheckInstance descrNameAndClass isInstance;simp only[KF.owner_class]
 repeat lk
 refine⟨Code.quiet_builtin _<|by decide+kernel,Av KF.entry_class ?_⟩;unfold Builtin.«object.__class__» shownTypeOf
 repeat lk
 exact h
theorem aGt{tk:Tok}{Q:Fin->BE->Prop}(X:K.In h)(I:ExA a C h)(ha:findIn K (.ref C) "__class__"=some (some<|.builtin "object.__class__"))(hm:mroIn K C (.type "object")=some true)
  (hq:Q (.done (.ret<|.ref C)) ⟨h,g,d,t,os⟩):AK (AG prog w) A (Builtin.«object.__getattribute__» ⟨[.ref a,.str "__class__" tk],[]⟩) Q E ⟨h,g,d,t,os⟩:=by
 have hT5:(⟨h,g,d,t,os⟩:BE).TypeIs (.builtin "object.__class__") "getset_descriptor":=F.typeOf_object_class;have f5:=F.typeOf_object_class;have f6:=F.slot_gs_get.lookup;have f7:=F.slot_gs_set.lookup;have L1:=looks_findIn (M:=AG prog w) X ha;obtain⟨o,hx,hc⟩:=id I
 repeat (any_goals (first|assumption|(with_reducible refine wpAny_loadPart_at hx ?_;rw[hc])|with_reducible refine L1.at ?_|wp_step))
 refine aMI X I hm ?_
 repeat (any_goals (first|assumption|wp_step))
theorem aGv{M:Model}{nameV:BD}{Q:Unit->BE->Prop}(X:K.In h)(I:ExA a C h)(hs:subIn K (.ref C) (.type "BaseException")=some true)(hq:Q () ⟨h,g,d,t,os⟩):
  AK M A (checkBuiltinCall "BaseException.__getattribute__" ⟨[.ref a,nameV],[]⟩) Q E ⟨h,g,d,t,os⟩:=by
 have hk:builtinKind "BaseException.__getattribute__"=some .slot:=by decide+kernel
 have hsplit:splitId "BaseException.__getattribute__"=some ("BaseException","__getattribute__"):=by decide+kernel
 have L1:=looks_subIn (M:=M) X hs;obtain⟨o,hx,hc⟩:=id I;have ha:=F.args_bexc_ga (.ref a) nameV;simp only[checkBuiltinCall,hk,hsplit];refine AA ?_;unfold isInstance
 repeat (first|(with_reducible refine wpAny_loadPart_at hx ?_;rw[hc])|with_reducible refine L1.at ?_|wp_step)
 exact hq
theorem aKp{tk:Tok}{R:Result->BE->Prop}(X:K.In h)(I:ExA a C h)(ha:findIn K (.ref C) "__class__"=some (some<|.builtin "object.__class__"))(hm:mroIn K C (.type "object")=some true)(hs:subIn K (.ref C) (.type "BaseException")=some true)
  (hq:R (.ok (.ret<|.ref C)) ⟨h,g,d,t,os⟩):Az (AG prog w) A (.call (.builtin "BaseException.__getattribute__") ⟨[.ref a,.str "__class__" tk],[]⟩) R ⟨h,g,d,t,os⟩:=
 codeAny_call_builtin F.attr_ValueError.ga.plain F.entry_bexc_ga (aGv X I hs<|aGt X I ha hm hq)
theorem aOz{tk:Tok}{Q:BD->BE->Prop}(X:K.In h)(I:ExA a C h)(ha:findIn K (.ref C) "__class__"=some (some<|.builtin "object.__class__"))(hm:mroIn K C (.type "object")=some true)(hs:subIn K (.ref C) (.type "BaseException")=some true)
  (hg:findIn K (.ref C) "__getattribute__"=some (some<|.builtin "BaseException.__getattribute__")) (hn:findIn K (.ref C) "__getattr__"=some none)
  (hq:Q (.ref C) ⟨h,g,d,t,os⟩):AK (AG prog w) A (getAttrBy (.ref a) (.str "__class__" tk) false) Q E ⟨h,g,d,t,os⟩:=by
 have f3:=F.attr_ValueError.ga.bind<|.ref a;have hx2:(Value.builtin "BaseException.__getattribute__"==Value.builtin "object.__getattribute__")=false:=by decide+kernel
 have hx1:(onTheHeap (Value.ref C)&&Value.builtin "BaseException.__getattribute__"==Value.builtin "object.__getattribute__")=false:=by rw[hx2];rfl
 have L1:=looks_findIn (M:=AG prog w) X hg;have L2:=looks_findIn (M:=AG prog w) X hn;obtain⟨o,hx,hc⟩:=id I
 repeat (any_goals (first|assumption|(with_reducible refine wpAny_loadPart_at hx ?_;rw[hc])|with_reducible refine L1.at ?_|with_reducible refine L2.at ?_|wp_step))
 refine aKp X I ha hm hs ?_
 repeat (any_goals (first|assumption|wp_step))
theorem aKC{Q:Option BD->BE->Prop}(X:K.In h)(I:ExA a C h)(ha:findIn K (.ref C) "__class__"=some (some<|.builtin "object.__class__"))(hm:mroIn K C (.type "object")=some true)(hs:subIn K (.ref C) (.type "BaseException")=some true)
  (hg:findIn K (.ref C) "__getattribute__"=some (some<|.builtin "BaseException.__getattribute__")) (hn:findIn K (.ref C) "__getattr__"=some none)
  (hq:Q (some<|.ref C) ⟨h,g,d,t+1,os⟩):AK (AG prog w) A (getAttr? (.ref a) "__class__") Q E ⟨h,g,d,t,os⟩:=by
 unfold getAttr? getAttrBy?
 repeat (any_goals (first|assumption|with_reducible apply aOz X I ha hm hs hg hn|wp_step))
structure aLw(K:Frag)(C:BF):Prop where
 ha:findIn K (.ref C) "__class__"=some (some<|.builtin "object.__class__")
 hm:mroIn K C (.type "object")=some true
 hs:subIn K (.ref C) (.type "BaseException")=some true
 hg:findIn K (.ref C) "__getattribute__"=some (some<|.builtin "BaseException.__getattribute__")
 hn:findIn K (.ref C) "__getattr__"=some none
 hc:(clsIn K C).isSome=true
theorem aGB(x:aLw K C):KitX K (.ref a) (.ref C) (ExA a C) where
 ty:=λ_ _ _ I=>I.type
 it:=λ_ _ X _=>by
  obtain⟨cdD,hcD⟩:=mD.mp x.hc;unfold clsIn at hcD
  split at hcD
  ·rename_i c' d' cd' sl' ho;intro A' Q' E' s' k q;unfold isType loadHead;exact AA (wpAny_loadPart (k _ _<|X _ _ ho)<|AC q)
  ·cases hcD
 ne:=λh tp dd its n sl X htp=>by
  obtain⟨cdD,hcD⟩:=mD.mp x.hc;refine aIz.mpr λq=> ?_
  have e:C=tp:=Value.ref.inj<|beq_iff_eq.mp q;subst e;unfold clsIn at hcD
  split at hcD
  ·rename_i c' d' cd' sl' ho;have z:=(X _ _ ho).symm.trans htp;cases z
  ·cases hcD
 ca:=λ{prog w A E Q s} X I k=>by obtain⟨h,g,d,t,os⟩:=s;exact aKC X I x.ha x.hm x.hs x.hg x.hn k
end DL
namespace DL
open PySem PySem.Spec PyProof.Rows L2
noncomputable def aNJ:List BD:=[.type "ValueError",.type "Exception",.type "BaseException",.type "object"]
theorem aEw{K:aA}{h:BH}{C:BF}{bmB:List BD}{newId:String}(X:K.In h)(q:iT K C bmB newId=true):
  ∃bm N nm q bs hdct sn sub ab col dd k0 k1 k2 k3 k5 mN,h.get? C=some (excClassObj nm q C N bs bm hdct sn sub ab col dd k0 k1 k2 k3 k5 newId)/\h.Ns N mN/\mN "__init__"=none/\OwnTail h bmB bm:=by
 unfold iT at q
 split at q
 ·rename_i dd cd sl ho
  split at q
  ·rename_i C' bm k0 k1 k2 k3 n k5 hm hs;simp only[bO,beq_iff_eq,sJ] at q;obtain⟨⟨⟨⟨⟨rfl,rfl⟩,hdel⟩,ht⟩,hok⟩,hni⟩:=q;obtain⟨nm,bs,mro,ns,qn,hd,sn,sub,ab,col,del⟩:=cd;dsimp only at hm hdel hok hni;subst hm hdel
   have hsl:sl= #[k0,k1,k2,k3,some<|.builtin n,k5]:=by obtain⟨l⟩:=sl;simp only at hs;rw[hs]
   subst hsl;exact⟨bm,ns,nm,qn,bs,hd,sn,sub,ab,col,dd,k0,k1,k2,k3,k5,_,X _ _ ho,.of_isNs<|PySem.W.isNs_of_in X hok,PySem.W.nsMap_none_of_in X hok hni,PySem.W.tail_of_in X ht⟩
  ·cases q
 ·cases q
def Takes(X:Cx)(cls:BD)(sd:List Slot):Prop:=∀ (pins:List (BF×BI)) (σ:St) (F H:Hp) (s:BE) (a T:BF),Inv X pins σ H s->StF X.K X.B₀ F H σ sd->Exc X.s₀.heap s.heap H a T cls->(∀p∈X.pn++pins,p.1≠a/\p.1≠T)->X.xe (.ref a) s
def uT(X:Cx)(cls:BD)(sd:List Slot):Prop:=∀ (pins:List (BF×BI)) (σ:St) (F H:Hp) (s:BE) (h':BH) (a:BF) (args:List BD),Inv X pins σ H s->StF X.K X.B₀ F H σ sd->Heap.MadeExcOf s.heap h' a cls args->X.xe (.ref a) {s with heap:=h'}
variable {P:AE}{w:AL}{K:aA}{mg:Str->Option BD}{base:BH}{N:List Str}{qual:Str}{scope:Scope}{f:BF}{cdv:BD}{A:BG}{outer:List Env}{s:BE}{H:Hp}{E:XK}{cls:BD}{sd:List Slot}
theorem rS(hE:∀a H',Same H H'->Smp H'->E (.ref a) (some a) H'):Takes (jB (CX1 P w cls) P w K mg base N qual scope f cdv A outer s H E) cls sd:=λpins σ F H' s' a T I S x _=>wK (X:=jB (CX1 P w cls) P w K mg base N qual scope f cdv A outer s H E) (E:=E) I rfl ⟨rfl,rfl⟩ x<|hE a H' (λb o e=>S.sub _ _<|S.base _ _ e) S.smp
theorem uG(hE:∀a H',Same H H'->Smp H'->E (.ref a) (some a) H'):uT (jB (CX1 P w cls) P w K mg base N qual scope f cdv A outer s H E) cls sd:=λpins σ F H' s' h' a args I S m=>aFp (X:=jB (CX1 P w cls) P w K mg base N qual scope f cdv A outer s H E) (E:=E) I rfl ⟨rfl,rfl⟩ m<|hE a H' (λb o e=>S.sub _ _<|S.base _ _ e) S.smp
variable {X:Cx}{e a b c:Expr}{es:List Expr}{pos:Pos}{d:D}{ds:List D}{E:hW}
theorem yC{x:Str}{np cpos:Pos}{C:BF}(hg:Gl X x)(hm:X.mg x=some (.ref C))(hx:iT X.K C aNJ "ValueError.__new__"=true)(ht:uT X (.ref C) sd)(he:PAd X sd (e::es) (ds.map R.val))(hl:ds.length<=10000)
  (hc:X.calm=true:=by rfl) (hdb:(x==("__debug__":Str))=false:=by decide) (hst:AB (e::es) X.env=(false,eval e X.env)::AB es X.env:=by rfl) (hpl:(Aa cpos<|AB es X.env).any (·.1)=false:=by rfl):
  PSd1 X sd (.Raise (some<|.Call (.Name x np) (e::es) [] cpos) none pos) E:=.mk λσ F H S pins s I=>by
 obtain⟨bm,Nn,nm,q,bs,hdct,sn,sub,ab,col,dd,k0,k1,k2,k3,k5,mN,hC,hN,hni,T⟩:=aEw (h:=X.base) I.ok.mod.kin hx
 refine wpAny_Raise_call_subT (C:=C) (nm:=nm) (q:=q) (N:=Nn) (bs:=bs) (bm:=bm) (hdct:=hdct) (sn:=sn) (sub:=sub) (ab:=ab) (col:=col) (dd:=dd) (k0:=k0) (k1:=k1) (k2:=k2) (k3:=k3) (k5:=k5) (bmB:=aNJ)
  wZ (mN:=mN) (T.hasType wZ.hasBase) (I.ok.hd hc) (by rw[hst];show(false||(Aa cpos<|AB es X.env).any (·.1))=false;rw[hpl];rfl) hni (kN I hg hm ⟨rfl, ?_⟩ hdb)
 have hA:=he σ F H S cpos pins s I;rw[hst] at hA ⊢;refine Calls.evalArgs_plain<|AX hA (λus s2 ⟨vs,H2,I2,r2,F2,S2,s2',q2⟩=> ?_) λ_ _ y=>y
 have lv:us.length<=AM:=by rw[<-r2.length,q2.vals.len];exact dA<|eV hl
 exact⟨rfl,lv,I2.bk _ _ hC,hN.keeps I2.bk,T.keeps I2.bk,λh' e m=>ht pins σ F2 H2 s2 h' e us I2 S2 m⟩
structure PEx(X:Cx)(sd:List Slot)(e:Expr):Prop where
 run:∀ (σ:St) (F H:Hp),StF X.K X.B₀ F H σ sd->wE X e σ H (λ_ _=>False)
theorem rG(h:PEx X sd e)(hs:AY e none pos.line X.env=pure false:=by rfl):PSd1 X sd (.Expr e pos) E:=.mk λσ F H S=>(oR eR hs).to<|(h.run σ F H S).imp λ_ _ z=>z.elim
theorem uH(i:Nat){x:Str}{p:Pos}(hN:X.N.Nodup)(hi:X.N[i]? =some x)(hx:Loc X.env.scope x)(h:PEx X sd e)(hs:AY e (some<|.Name x p) pos.line X.env=pure false:=by rfl)
  (hf:X.fn x=true\/X.env.scope.names.lookup x=some .local:=by first|exact .inl rfl|exact .inr rfl|assumption):PSd1 X sd (.Assign [.Name x p] e pos) E:=.mk λσ F H S=>
 (pN hN hi hx eR hs hf).to ((h.run σ F H S).imp λ_ _ z=>z.elim)
theorem aBd(h:PEx X sd e):PSd1 X sd (.Return (some e) pos) E:=.mk λσ F H S=>(rW eR).to<|(h.run σ F H S).imp λ_ _ z=>z.elim
noncomputable def spX(K:aA)(n:Nat)(C:List D->Prop):Sp:=λvs H _ E=>vs.length=n/\Smp H/\∃ds,RepL K H ds vs/\C ds/\∀a H',Same H H'->Smp H'->E (.ref a) (some a) H'
structure eW(P:AE)(w:AL)(K:aA)(mg:Str->Option BD)(base:BH)(x:Str)(k n:Nat)(C:List D->Prop)(cls:BD)(dvs:List V)(dws:List BD):Prop where
 ex:∃ (f:BF) (fd:AN) (ps:List Str),mg x=some (.ref f)/\cG K (.ref f)=true/\Binds K fd ps dws/\Vals dvs dws/\FnOk P w K mg base (CX1 P w cls) k f fd ps (spX K n C)
theorem tQ{CX:CXT}{k:Nat}{fd:AN}{ps:List Str}{sp:Sp}{dvs:List V}{dws:List BD}{Ex:XK}{pins:List (BF×BI)}{σ:St}{Q:VK}{us:List BD}{vs:List V}(F:FnOk X.prog X.w X.K X.mg X.base CX k f fd ps sp)(hr:Room k X.A)(hb:Binds X.K fd ps dws)(hd:Vals dvs dws)
  (I:Inv X pins σ H s) (r:Vals vs us) (h:sp (vs++dvs) H Q Ex) (hx:∀e s',CX X.stack H s Ex e s'->X.xe e s'):AK (AG X.prog X.w) X.A (call (.ref f) us) (EP X pins σ Q) X.xe s:=by
 have r2:Vals (vs++dvs) (us++dws):=r.append hd;have hl:(us++dws).length=ps.length:=by rw[<-r2.length];exact F.len _ _ _ _ h
 refine wpAny_call<|Aj (F.run X.A X.stack s H ⟨us,[]⟩ (us++dws) (vs++dvs) Q Ex hr I.env0 (hb s us I.kIn hl) r2 h) λr s' hq=> ?_;cases r with
 |error e=>exact hx e s' hq
 |ok fl=>
  cases fl with
  |ret u=>exact I.after hq
  |next=>exact False.elim hq
  |brk=>exact False.elim hq
  |cont=>exact False.elim hq
theorem aJW{pins:List (BF×BI)}{σ:St}{F:Hp}{s':BE}{e:BD}(hex:X.ex=[])(I:Inv X pins σ H s)(S:StF X.K X.B₀ F H σ sd)(h:CX1 X.prog X.w cls X.stack H s (λ_ _ H'=>Same H H'/\Smp H') e s'):
  ∃a T H',e=.ref a/\Inv X pins σ H' s'/\StF X.K X.B₀ F H' σ sd/\Exc X.s₀.heap s'.heap H' a T cls/\∀p∈X.pn++pins,p.1≠a/\p.1≠T:=by
 obtain⟨a,T,H',rfl,os,bare,un,hok,x,sH,smH⟩:=h;have I2:Inv X pins σ H' s':=I.call' os un hok bare (λb z=>absurd z<|by simp)
 have fr:∀b,s.heap.get? b=none->X.s₀.heap.get? b=none:=λb q=>by
  cases g:X.s₀.heap.get? b with
  |none=>rfl
  |some o=>obtain⟨o1,q1⟩:=I.base.there b o g (λhb=>by rw[hex] at hb;cases hb);rw[q] at q1;cases q1
 have nw:∀b,s.heap.get? b=none->∀p∈X.pn++pins,p.1≠b:=λb q p hp z=>by have:=(I.pin p hp).1;rw[z,q] at this;cases this
 exact⟨a,T,H',rfl,I2,⟨S.base,S.sub.trans sH,smH,S.slots.mono (Same.refl _) λl hl=>⟨(S.slots.owns hl).1,λob e=>sH _ _ e⟩,S.nd⟩,⟨x.free,fr a x.new,x.freeT,fr T x.newT,x.obj⟩,λp hp=>⟨nw a x.new p hp,nw T x.newT p hp⟩⟩
theorem zR{x:Str}{p:Pos}{k n:Nat}{C:List D->Prop}{dvs:List V}{dws:List BD}{dds:List D}(G:eW X.prog X.w X.K X.mg X.base x k n C cls dvs dws)(hex:X.ex=[])(hr:Room k X.A)(hg:Gl X x)(ha:PAd X sd (e::es) (ds.map R.val))(hdv:∀H,RepL X.K H dds dvs)(hc:C (ds++dds))(hn:ds.length+dds.length=n)(ht:Takes X cls sd)
  (hdb:(x==("__debug__":Str))=false:=by decide) (he:AB (e::es) X.env=(false,eval e X.env)::AB es X.env:=by rfl) (hpl:(Aa pos<|AB es X.env).any (·.1)=false:=by rfl):
  PEx X sd (.Call (.Name x p) (e::es) [] pos):=⟨fun σ F H S pins s I=>by
 obtain⟨f,fd,ps,hm,hk,bd,hd,G⟩:=G.ex;refine AR<|kN I hg hm ?_ hdb;refine eE (h₀:=X.base) I.ok.mod.kin hk (thn (ha σ F H S pos pins s I) λus s1 ⟨vs,H1,I1,r,F1,S1,s1',q⟩=>⟨I1.kIn, ?_⟩) he hpl;have rl:RepL X.K H1 (ds++dds) (vs++dvs):=(q.vals.mono S1.sub).app<|hdv H1;refine tQ (Q:=λ_ _=>False) (Ex:=λ_ _ H'=>Same H1 H'/\Smp H') G hr bd hd I1 r ⟨by rw[rl.len,aN];exact hn,S1.smp,ds++dds,rl,hc,λa H' q1 q2=>⟨q1,q2⟩⟩ λe s' hcx=> ?_
 obtain⟨a,T,H',rfl,I2,S2,x2,pn⟩:=aJW hex I1 S1 hcx
 exact ht pins σ F1 H' s' a T I2 S2 x2 pn⟩
variable {x:Str}{st:BJ}{fd:AN}{ps:List Str}{k:Nat}{C:List D->Prop}
theorem aPg{oc:BD}{od:Option BF}{osl:Array (Option BD)}{dV kV doc pm ct:BD}{an:Option BF}(lk:K.lookup f=some ⟨oc,od,.func<|bY x qual (dW st) (cM st) (aK st) dV kV doc pm an cdv ct,osl⟩)(hcd:eL K cdv qual=true)(S:fK N ps (aK st))
  (body:∀ (A:BG) (outer:List Env) (s:BE) (H:Hp) (E:XK),Room k (A.deeper (Ag qual (aK st) s.heap.objs.size f cdv))→(∀a H',Same H H'→Smp H'→E (.ref a) (some a) H')→∀ds,ds.length=ps.length→C ds→
   PSd (jB (CX1 P w cls) P w K mg base N qual (aK st) f cdv A outer s H E) (init N.length ds) (cM st) {nx:=λ_=>False,rt:=λ_=>False}):
  FnOk P w K mg base (CX1 P w cls) (k+1) f (bY x qual (dW st) (cM st) (aK st) dV kV doc pm an cdv ct) ps (spX K ps.length C):=by
 refine aFK lk hcd S (λvs H Q E h=>h.1) λA outer s H vs Q E hr h=> ?_
 obtain⟨hl,sm,ds,rl,c,q⟩:=h;have hds:ds.length=ps.length:=by rw[<-rl.len];exact hl
 refine⟨_,pss_w, ?_⟩;have hlen:N.length-vs.length=N.length-ds.length:=by rw[rl.len]
 have S0:StF K H H H (L2.start N vs) (init N.length ds):=by
  refine⟨Same.refl _,Same.refl _,sm, ?_, ?_⟩
  ·unfold L2.start init;rw[hlen];exact gT (m:=0) rl
  ·unfold init;rw[hX];exact cI
 exact(body A outer s H E hr q ds hds c (L2.start N vs) H H S0).imp (λ_ _ ⟨_,_,_,_,z⟩=>z.elim) (λ_ _ ⟨_,_,z⟩=>z.elim) (λ_ _ ⟨_,_,_,_,z⟩=>z.elim) λ_ _ ⟨_,_,_,_,z⟩=>z.elim
theorem aKc(F:Fun K x qual st f fd)(S:fK N ps (aK st))(hm:mg x=some (.ref f))(hb:∀ (kV doc pm:BD) (an:Option BF) (cdv ct:BD) (us:List BD),us.length=ps.length->bindArgs (bY x qual (dW st) (cM st) (aK st) .none kV doc pm an cdv ct) ⟨us,[]⟩=pure (ps.zip us))
  (body:∀ (cdv:BD) (A:BG) (outer:List Env) (s:BE) (H:Hp) (E:XK),Room k (A.deeper (Ag qual (aK st) s.heap.objs.size f cdv))→(∀a H',Same H H'→Smp H'→E (.ref a) (some a) H')→∀ds,ds.length=ps.length→C ds→
   PSd (jB (CX1 P w cls) P w K mg base N qual (aK st) f cdv A outer s H E) (init N.length ds) (cM st) {nx:=λ_=>False,rt:=λ_=>False}):eW P w K mg base x (k+1) ps.length C cls [] []:=by
 have hbd:=F.binds hb;obtain⟨oc,od,kV,doc,pm,an,cdv,ct,osl,rfl,lk,hcd⟩:=F.ex;exact⟨f,_,ps,hm,F.kp,hbd,.nil,aPg lk hcd S<|body cdv⟩
variable {pins:List (BF×BI)}{σ:St}{F:Hp}{h':BH}{S:List BF}
theorem uA{h:BH}{c:BF}{v:Option BD}(k:h.UpToSlots h')(z:h.IsCell c v):h'.IsCell c v:=by
 obtain⟨o,ho,hd⟩:=z;obtain⟨sl,q⟩:=k c o ho λvs e=>by rw[hd] at e;cases e
 exact⟨_,q,hd⟩
theorem aDH(I:Inv X pins σ H s)(hS:∀b∈S,H b=none/\X.s₀.heap.get? b=none/\∀p∈X.pn++pins,p.1≠b)(k1:Heap.StaysIn (oA s.heap<|frs X.stack++S) h')(k4:s.heap.UpToSlots h'):Inv X pins σ H {s with heap:=h'}:=by
 have stay:∀b o,b∉frs X.stack++S->s.heap.get? b=some o->h'.get? b=some o:=λb o hb q=>k1 b o (by rw[kX hb];exact q)
 have out:∀b o,X.s₀.heap.get? b=some o->b∉X.fs->b∉frs X.stack++S:=λb o q hb hm=>by
  rcases aU.mp hm with hm|hm
  ·rcases bA.mp (I.stkSub b hm) with e|hm
   ·have lt:=aP q;rw[e] at lt;exact absurd lt<|oH.mpr I.ok.above
   ·exact hb hm
  ·rw[(hS b hm).2.1] at q;cases q
 have slot:∀b o,X.s₀.heap.get? b=some o->X.H₀ b=none->b∈X.fs->b∉X.ex->∃sl,h'.get? b=some {o with slots:=sl}:=λb o q n hb hx=>by obtain⟨sl,q1⟩:=I.base.slot b o q n hb hx;obtain⟨_,o',q2,nf⟩:=I.ok.funs.mem hb;rw[q] at q2;cases q2;obtain⟨sl2,q3⟩:=k4 b _ q1 nf;exact⟨sl2,q3⟩
 have tr:∀b u,H b=some u->b∉frs X.stack++S:=λb u e hm=>by
  rcases aU.mp hm with hm|hm
  ·rw[I.env0.frf b hm] at e;cases e
  ·rw[(hS b hm).1] at e;cases e
 obtain⟨m,hn,hl⟩:=id I.loc;refine⟨I.ok,I.os,I.bare,⟨λb o q n hb hx=>stay b o (out b o q hb)<|I.base.keep b o q n hb hx,slot,I.base.free,λb o q hx=> ?_,I.base.tups,I.base.frzs,I.base.tbls⟩,⟨m,k4.ns hn,λi x v e1 e2 e3=> ?_⟩,λx c e=> ?_,I.free,I.freeC,λp hp=> ?_,λb u e=> ?_,I.len⟩
 ·by_cases hb:b∈X.fs
  ·obtain⟨sl,q2⟩:=slot b o q (I.ok.frf b hb) hb hx;exact⟨_,q2⟩
  ·obtain⟨o1,q1⟩:=I.base.there b o q hx;exact⟨o1,stay b o1 (out b o q hb) q1⟩
 ·obtain⟨u,r,q⟩:=hl i x v e1 e2 e3;refine⟨u,r, ?_⟩
  rcases q with q|⟨k,c,e,z⟩
  ·exact .inl q
  ·exact .inr ⟨k,c,e,uA k4 z⟩
 ·obtain⟨v,z⟩:=I.cell x c e;exact⟨v,uA k4 z⟩
 ·obtain⟨e,n,ne,nf,d⟩:=I.pin p hp;refine⟨stay p.1 p.2 (λhm=> ?_) e,n,ne,nf,d⟩
  rcases aU.mp hm with hm|hm
  ·rcases bA.mp (I.stkSub _ hm) with z|z
   ·exact ne z
   ·exact nf z
  ·exact(hS _ hm).2.2 p hp rfl
 ·refine(I.hok b u e).stay (λc v hc q=>stay c v ?_ q) (λ_ q=>q) λ_ _ q=>q
  rcases hc with z|z
  ·rw[z];exact tr b u e
  ·exact tr c _ z
theorem aMz{ξ:BD->BE->Prop}{pn:List (BF×BI)}(I:Inv X pins σ H s)(S:StF X.K X.H₀ F H σ sd)(hpn:pn=X.pn++pins):Inv {X with H₀:=F,B₀:=F,hB:=λ_ _ e _=>e,xe:=ξ,pn:=pn} [] σ H s:=by
 have n0:∀b,F b=none->X.H₀ b=none:=λb n=>by
  cases q:X.H₀ b with
  |none=>rfl
  |some u=>rw[S.base _ _ q] at n;cases n
 have fn:∀b,H b=none->F b=none:=λb n=>S.sub.free n
 subst hpn
 refine ⟨⟨I.ok.mod,I.ok.kind,I.ok.glob,I.ok.blt,I.ok.above,I.ok.inj,I.ok.has,I.ok.cab,I.ok.hd,I.ok.frames,I.ok.stk,I.ok.exf,fun b o e=>⟨(I.ok.bs b o e).1,fn b (I.bs b o e).2⟩,I.ok.bsz,I.ok.noex,I.ok.exfs,I.ok.funs,fun b hb=> ?_⟩,I.os,I.bare,
  ⟨λb o q n hb hx=>I.base.keep b o q (n0 b n) hb hx,λb o q n hb hx=>I.base.slot b o q (n0 b n) hb hx,λb o q n hx=>I.base.free b o q (n0 b n) hx,I.base.there,λb xs e=>S.sub _ _ e,λb o u e=>S.sub _ _ e,λb ps e=>⟨#[],by rw[S.sub _ _ e];simp⟩⟩,I.loc,I.cell,I.free,I.freeC,λp hp=> ?_,I.hok,I.len⟩
 ·obtain⟨_,o,q,_⟩:=I.ok.funs.mem hb;exact fn b<|I.base.free b o q (I.ok.frf b hb) λhx=>I.ok.exfs b hx hb
 ·rw[bG] at hp;exact I.pin p hp
theorem aMD{ξ:BD->BE->Prop}{pn:List (BF×BI)}{pins':List (BF×BI)}{σ':St}{H':Hp}{s':BE}(I0:Inv X pins σ H s)(S:StF X.K X.H₀ F H σ sd)(hpn:pn=X.pn++pins)(I:Inv {X with H₀:=F,B₀:=F,hB:=λ_ _ e _=>e,xe:=ξ,pn:=pn} pins' σ' H' s'):Inv X pins σ' H' s':=by
 subst hpn;have nf:∀b o,X.s₀.heap.get? b=some o->X.H₀ b=none->b∉X.ex->F b=none:=λb o q n hx=>S.sub.free<|I0.base.free b o q n hx
 refine⟨I0.ok,I.os,I.bare,⟨λb o q n hb hx=>I.base.keep b o q (nf b o q n hx) hb hx,λb o q n hb hx=>I.base.slot b o q (nf b o q n hx) hb hx,λb o q n hx=>I.base.free b o q (nf b o q n hx) hx,I.base.there,λb xs e=>I.base.tups b xs<|S.base _ _ e,λb o u e=>I.base.frzs b o u<|S.base _ _ e,λb ps e=>I.base.tbls b ps<|S.base _ _ e⟩,I.loc,I.cell,I.free,I.freeC,λp hp=>I.pin p<|bL _ hp,I.hok,I.len⟩
theorem aGX{m:Str->Option BD}{j:Nat}{n:Str}{v:Option BD}{t':Nat}(I:Inv X pins σ H s)(hN:X.N.Nodup)(hj:X.N[j]? =some n)(hk:X.env.scope.names.lookup n=some .local)(hn:s.heap.Ns X.env.locals m)
  (hl:∀ (i:Nat) (x:Str) (v:V),X.N[i]? =some x->σ[i]? =some (some v)->Vis X.env.scope x->∃u,RelV v u/\aPr X.env s.heap m x u) (hn':h'.Ns X.env.locals (λx=>if x=n then v else m x)) (hs:Heap.SameBut X.env.locals s.heap h'):Inv X pins (σ.set j none) H {s with heap:=h',toks:=t'}:=by
 have cne:=I.cne;have hiσ:j<σ.length:=by rw[I.len];exact(aD.mp hj).1
 refine⟨I.ok,I.os,I.bare,⟨λb o e n hb hx=> ?_,λb o e n hb hx=> ?_,I.base.free,λb o e hx=> ?_,I.base.tups,I.base.frzs,I.base.tbls⟩,⟨_,hn',λi y v' e1 e2 e3=> ?_⟩,λy c e=> ?_,I.free,I.freeC,λp hp=> ?_,λb ob e=> ?_,by rw[aLj];exact I.len⟩
 ·exact(hs.2 b (bQ<|aS (aP e) I.ok.above)).trans<|I.base.keep b o e n hb hx
 ·obtain⟨sl,e1⟩:=I.base.slot b o e n hb hx;exact⟨sl,(hs.2 b (bQ<|aS (aP e) I.ok.above)).trans e1⟩
 ·obtain⟨o',e1⟩:=I.base.there b o e hx;exact⟨o',(hs.2 b (bQ<|aS (aP e) I.ok.above)).trans e1⟩
 ·by_cases hi:i=j
  ·subst hi;rw[gL hiσ] at e2;cases e2
  ·rw[iE<|Ne.symm hi] at e2;obtain⟨u',r',q⟩:=hl i y v' e1 e2 e3;refine⟨u',r', ?_⟩
   rcases q with⟨k,e⟩|⟨k,c,e,z⟩
   ·refine .inl ⟨k, ?_⟩;have:y≠n:=λe=>hi (vN hN e1<|e▸hj)
    simp[this,e]
   ·exact .inr ⟨k,c,e,z.sameBut hs<|cne y c e⟩
 ·obtain⟨w',z⟩:=I.cell y c e;exact⟨w',z.sameBut hs<|cne y c e⟩
 ·obtain⟨e,n,ne,nf,d⟩:=I.pin p hp;exact⟨(hs.2 p.1 ne).trans e,n,ne,nf,d⟩
 ·refine(I.hok b ob e).stay (λc w' hc q=>(hs.2 c ?_).trans q) (λ_ q=>q) λ_ _ q=>q
  rintro rfl
  rcases hc with z|hc
  ·have:=I.free;rw[z,e] at this;cases this
  ·rw[I.free] at hc;cases hc
variable {a T:BF}{M:Model}{Ex:BD->BE->Prop}
structure aLh(X:Cx)(pins:List (BF×BI))(σ:St)(H:Hp)(s:BE)(a T:BF)(cls fl:BD):Prop where
 inv:Inv X pins σ H s
 fa:H a=none/\X.s₀.heap.get? a=none/\∀p∈X.pn++pins,p.1≠a
 fT:H T=none/\X.s₀.heap.get? T=none/\∀p∈X.pn++pins,p.1≠T
 obj:∃oe vs oT ts a0,s.heap.get? a=some oe/\(oe.cls=cls/\vs[0]? =some a0)/\oe.data=.fields vs/\vs[1]? =some (.ref T)/\T≠a/\s.heap.get? T=some oT/\oT.data=.fields ts/\ts[3]? =some fl
theorem aBr(h:aLh X pins σ H s a T cls fl):∀b∈[a,T],H b=none/\X.s₀.heap.get? b=none/\∀p∈X.pn++pins,p.1≠b:=λb hb=>by
 simp only[bA,eX,or_false] at hb
 rcases hb with rfl|rfl
 ·exact h.fa
 ·exact h.fT
theorem aFh{Q:Unit->BE->Prop}(hst:X.stack=X.env::X.outer/\X.env.frame=some X.env.locals)(hfr:A.frames=some X.stack)(hex:X.ex=[])(h:aLh X pins σ H s a T cls .none)(k:∀h' T',aLh X pins σ H {s with heap:=h'} a T' cls (rawInt X.env.locals)->Q () {s with heap:=h'}):
  AK M A (noteFrame (.ref a) X.env) Q Ex s:=by
 have hS:=aBr h;obtain⟨oe,vs,oT,ts,a0,he,hc,hd,h1,hTe,hT,hdT,h3⟩:=h.obj;have I:=h.inv;have fu:Heap.FunFrames s.heap (oA s.heap<|frs X.stack++[a,T]) X.stack:=oS I.env0.funs λb hb=>jU<|bL _ hb
 have fm:=hfr;rw[hst.1] at fm;have fu2:=fu;rw[hst.1] at fu2;have ca:(oA s.heap<|frs X.stack++[a,T]).get? a=none:=jU (aI _<|by simp);have cT:(oA s.heap<|frs X.stack++[a,T]).get? T=none:=jU (aI _<|by simp);refine wpAny_noteFrame_onW (base:=oA s.heap<|frs X.stack++[a,T]) (cls:=cls) (a0:=a0) fm (by rw[hst.1];exact fu2) hst.2 ⟨oe,vs,T,oT,ts,he,hc,hd,h1,cT,hTe,hT,hdT,h3⟩ (λb o q=>(qS q).2) ca λh' L=> ?_
 rw[<-hst.1] at L;obtain⟨k1,k2,⟨oe',vs',T',oT',ts',he',hc',hd',h1',hnT',hTe',hT',hdT',h3'⟩,k4⟩:=L;have I2:=aDH I hS k1 k4
 have Tn:s.heap.get? T'=none\/T'∈[a,T]:=by
  by_cases hm:T'∈frs X.stack++[a,T]
  ·rcases aU.mp hm with hm|hm
   ·obtain⟨_,o,q,nf⟩:=k2.mem hm;rw[hT'] at q;cases q;exact(nf ts' hdT').elim
   ·exact .inr hm
  ·rw[kX hm] at hnT';exact .inl hnT'
 refine k h' T' ⟨I2,h.fa, ?_,oe',vs',oT',ts',a0,he',hc',hd',h1',hTe',hT',hdT',h3'⟩
 rcases Tn with q|q
 ·refine⟨?_, ?_,λp hp z=> ?_⟩
  ·cases g:H T' with
   |none=>rfl
   |some u=>obtain⟨ob,q2⟩:=nX<|I.hok T' u g;rw[q] at q2;cases q2
  ·cases g:X.s₀.heap.get? T' with
   |none=>rfl
   |some o=>obtain⟨o1,q1⟩:=I.base.there T' o g (λhb=>by rw[hex] at hb;cases hb);rw[q] at q1;cases q1
  ·have:=(I.pin p hp).1;rw[z,q] at this;cases this
 ·exact hS T' q
theorem sI{fl:BD}{fr:Option BF}{Q:Unit->BE->Prop}(hst:X.stack=X.env::X.outer/\X.env.frame=some X.env.locals)(h:aLh X pins σ H s a T cls fl)(k:∀h',aLh X pins σ H {s with heap:=h'} a T cls (fr.elim Value.none λf=>rawInt f)->Q () {s with heap:=h'}):
  AK M A (setFlight (.ref a) fr) Q Ex s:=by
 have hS:=aBr h;obtain⟨oe,vs,oT,ts,a0,he,hc,hd,h1,hTe,hT,hdT,h3⟩:=h.obj;have I:=h.inv;have hsz3:3<ts.size:=(Array.getElem?_eq_some_iff.mp h3).1
 have other:∀b,b≠T->(s.heap.update T (Obj.mapFields (·.setIfInBounds 3 (fr.elim Value.none λf=>rawInt f)))).get? b=s.heap.get? b:=
  λb hb=>cP _ _<|Ne.symm hb
 have noRecord:∀b o,s.heap.get? b=some o->(∀vs,o.data≠ .fields vs)->b≠T:=λb o hb hnf q=>by rw[q,hT] at hb;injection hb with hb;subst hb;exact hnf ts hdT
 unfold setFlight;refine AA<|wpAny_field he hd h1 ?_;rw[if_pos (show(Value.ref T !=Value.none)=true from by simp)];refine wpAny_setField hT hdT hsz3<|k _ ⟨aDH I hS (λb o q=> ?_) λb o q nf=>⟨o.slots,(other b<|noRecord b o q nf).trans q⟩,h.fa,h.fT,oe,vs,_,_,a0,(other a<|Ne.symm hTe).trans he,hc,hd,h1,hTe,fQ _ hT (Obj.isFreed_of_fields<|Obj.data_mapFields hdT _),Obj.data_mapFields hdT _,by simp[hsz3]⟩;obtain⟨q1,q2⟩:=qS q;exact(other b λz=>q1 (aI _<|by simp[z])).trans q2
noncomputable def shF(v1 v2:V)(m:BF):List (Str×V):=mI "made" (.ref m) (mI "stock" v2<|mI "size" v1 [])
theorem nsm1:¬ ("size":Str)="made":=by decide+kernel
theorem nsm2:¬ ("stock":Str)="made":=by decide+kernel
theorem nsm3:¬ ("size":Str)="stock":=by decide+kernel
theorem aGE(v1 v2:V)(m:BF):(shF v1 v2 m).lookup ("size":Str)=some v1:=by unfold shF;rw[eY,if_neg nsm1,eY,if_neg nsm3,eY,if_pos rfl]
theorem aEE(v1 v2:V)(m:BF):(shF v1 v2 m).lookup ("stock":Str)=some v2:=by unfold shF;rw[eY,if_neg nsm2,eY,if_pos rfl]
theorem aGL{x m:BF}{a b e c:HO}:upd (upd (upd (upd H x a) x b) m e) x c=upd (upd H m e) x c:=by
 funext z;unfold upd
 by_cases h1:z=x
 ·simp[h1]
 ·by_cases h2:z=m
  ·simp[h1,h2]
  ·simp[h1,h2]
structure nE(K:aA)(mg:Str->Option BD)(C:BF):Prop where
 cl:Cls K C
 nZ:NoAttr K C "size"
 nS:NoAttr K C "stock"
 nM:NoAttr K C "made"
 mgC:mg "Shelf"=some (.ref C)
theorem Inv.reB{H':Hp}(I:Inv X pins σ H s)(hn:∀b,H b=none->H' b=none)(h0:Same X.B₀ H')(ok:HOk X.prog X.w H' s.heap):Inv X pins σ H' s:=by
 refine⟨I.ok,I.os,I.bare,⟨I.base.keep,I.base.slot,λb u e n hx=>hn b<|I.base.free b u e n hx,I.base.there,λb xs e=>h0 _ _<|X.hB _ _ e trivial,λb u xs e=>h0 _ _<|X.hB _ _ e trivial,λb ps e=>⟨#[], ?_⟩⟩,I.loc,I.cell,hn _ I.free,λx c e=>hn _<|I.freeC x c e,λp hp=> ?_,ok,I.len⟩
 ·rw[h0 _ _<|X.hB _ _ e trivial];simp
 ·obtain⟨e,n,r⟩:=I.pin p hp;exact⟨e,hn _ n,r⟩
def ShD(K:aA)(C:BF)(fs:List (Str×D))(m:BF):V->Hp->Prop:=λv F=>∃ (x dx:BF) (od:BI) (mA:Str->Option BD),v=.ref x/\F x=some (exO x<|cB C dx)/\F dx=some (exO dx od)/\dx≠x/\(∀h:BH,h.get? dx=some od->h.Ns1 dx mA)/\(∀f d,fs.lookup f=some d->∃y u,mA f=some u/\RelV y u/\Rep K F d y)/\mA "made"=some (.ref m)/\mA "book_up_to"=none
theorem ShD.mono{C m:BF}{fs:List (Str×D)}{v:V}{F':Hp}(h:ShD K C fs m v F)(s:Same F F'):ShD K C fs m v F':=by obtain⟨x,dx,od,mA,e,h1,h2,ne,n,q,r⟩:=h;exact⟨x,dx,od,mA,e,s _ _ h1,s _ _ h2,ne,n,λf d hf=>let ⟨y,u,a,b,c⟩:=q f d hf;⟨y,u,a,b,c.mono s⟩,r⟩
def mdO(K:aA)(m:BF)(ks:List Key)(ds:List D)(F H:Hp):Prop:=∃xs,H m=some (.dK<|ks.zip xs)/\ks.length=ds.length/\RepL K F ds xs
noncomputable def shX(K:aA)(C:BF)(fs:List (Str×D))(x m:BF)(ks:List Key)(ds:List D):Slot:=.ox [m] λv F H=>v=.ref x/\ShD K C fs m v F/\mdO K m ks ds F H
variable {a:Expr}{p pa:Pos}{ks:List Key}{fs:List (Str×D)}{C m q0:BF}{y f:Str}{j:Nat}
theorem aCM(S:StF X.K X.B₀ F H σ sd)(hj:sd[j]? =some (shX X.K C fs q0 m ks ds)):∃v,σ[j]? =some (some v)/\F m=none/\v=.ref q0/\ShD X.K C fs m v F/\mdO X.K m ks ds F H:=by
 obtain⟨o,h1,v,h2,q,g⟩:=S.slots.get hj;obtain⟨g0,g1,g2⟩:=g F H (Same.refl _) λl hl ob e=>e
 exact⟨v,by rw[h1,h2],(q m<|by simp).1,g0,g1,g2⟩
theorem tG(j:Nat)(hj:sd[j]? =some (shX X.K C fs q0 m ks ds))(hy:PE X (.Name y p) (iI j))(hc:Cls X.K C)(hn:NoAttr X.K C f)(hf:fs.lookup f=some d)(hb:Ae (.Name y p) f X.env (eval (.Name y p) X.env)=eval (.Name y p) X.env:=by rfl):
  PEd X sd (.Attribute (.Name y p) f pos) (.val d):=.mk λσ F H S pins s I=>by
 obtain⟨v,h1,_,_,⟨x,dx,od,mA,rfl,e1,e2,ne,ns,q,_⟩,_⟩:=aCM S hj;obtain⟨y0,u0,hm,ru,rp⟩:=q f d hf;refine zG hb<|thn (hy pins s σ H (λv' H'=>v'=.ref x/\H'=H) I ⟨.ref x,h1,rfl,rfl⟩) λu s1 ⟨v',H',I1,r1,ev,eH⟩=> ?_;subst ev eH;cases(show u=Value.ref x from r1);have g1:s1.heap.get? x=some (cB C dx):=(I1.hok x _<|S.sub _ _ e1).1;have g2:s1.heap.get? dx=some od:=(I1.hok dx _<|S.sub _ _ e2).1;exact zJ I1.kIn ⟨g1,ns _ g2,ne⟩ (hc.get f) hc.hd hn hm (rY ru) ⟨y0,H',I1.tok _,ru,F,S,Same.refl _,rp⟩
theorem zH(S:StF X.K X.B₀ F H σ sd)(hj:sd[j]? =some (shX X.K C fs q0 m ks ds))(hy:PE X (.Name y p) (iI j))(hc:Cls X.K C)(hn:NoAttr X.K C "made")(hb:Ae (.Name y p) "made" X.env (eval (.Name y p) X.env)=eval (.Name y p) X.env:=by rfl):
  wE X (.Attribute (.Name y p) "made" pa) σ H λv H'=>v=.ref m/\H'=H:=λpins s I=>by
 obtain⟨v,h1,_,_,⟨x,dx,od,mA,rfl,e1,e2,ne,ns,_,hm,_⟩,_⟩:=aCM S hj;refine zG hb<|thn (hy pins s σ H (λv' H'=>v'=.ref x/\H'=H) I ⟨.ref x,h1,rfl,rfl⟩) λu s1 ⟨v',H',I1,r1,ev,eH⟩=> ?_;subst ev eH;cases(show u=Value.ref x from r1);have g1:s1.heap.get? x=some (cB C dx):=(I1.hok x _<|S.sub _ _ e1).1;have g2:s1.heap.get? dx=some od:=(I1.hok dx _<|S.sub _ _ e2).1;exact zJ I1.kIn ⟨g1,ns _ g2,ne⟩ (hc.get "made") hc.hd hn hm (rY (v:=.ref m) rfl) ⟨.ref m,H',I1.tok _,rfl,rfl,rfl⟩
theorem uC{n:Nat}{k:Int}(j:Nat)(hu:X.A.units+1<AS)(hj:sd[j]? =some (shX X.K C fs q0 m ks ds))(hy:PE X (.Name y p) (iI j))(hc:Cls X.K C)(hn:NoAttr X.K C "made")(hb:PEd X sd b (.val<|.int k))(nd:ks.Nodup)(hk:ks[n]? =some (.inl k))(hd:ds[n]? =some d)(hs:aND b)(hab:Ae (.Name y p) "made" X.env (eval (.Name y p) X.env)=eval (.Name y p) X.env:=by rfl):
  PEd X sd (.Subscript (.Attribute (.Name y p) "made" pa) b pos) (.val d):=.mk λσ F H S=>
 (aJK hu eR eR hs).to ((zH S hj hy hc hn hab).imp fun v H1 ⟨e1,e2⟩=>by
  subst e1 e2;refine(hb σ F H1 S).imp λu H2 ⟨F2,S2,s2,q2⟩=> ?_
  simp only[ResOk,Rep] at q2;subst q2;obtain⟨_,_,_,_,_,xs,q,ln,rl⟩:=aCM S2 hj;obtain⟨w,hw,rw'⟩:=rl.get hd;have g:aLi H2 m (kV<|.inl k) (iO (ks.zip xs)<|.inl k):=.inl ⟨_,.inl k,.inl q,rfl,rfl⟩;rw[zE nd hk hw] at g
  exact⟨m,w,rfl,g,F2,S2,s2,rw'⟩)
theorem aAy{k:Int}{p2:Pos}(j:Nat)(hu:X.A.units+1<AS)(hj:sd[j]? =some (shX X.K C fs q0 m ks ds))(hy:PE X (.Name y p) (iI j))(hc:Cls X.K C)(hn:NoAttr X.K C "made")(h:PEd X sd e (.val d))(hb:PEd X sd b (.val<|.int k))(hk:(.inl k:Key)∉ks)(hl:ds.length<=10000)(hE:E.nx (sd.set j (shX X.K C fs q0 m (ks++[.inl k])<|ds++[d])))
  (hab:Ae (.Name y p) "made" X.env (eval (.Name y p) X.env)=eval (.Name y p) X.env:=by rfl) (hsw:AY e (some<|.Subscript (.Attribute (.Name y p) "made" pa) b p2) pos.line X.env=pure false:=by rfl):
  PSd1 X sd (.Assign [.Subscript (.Attribute (.Name y p) "made" pa) b p2] e pos) E:=.mk λσ F H S=>
 (aJd hu eR eR eR hsw).to ((h σ F H S).imp fun v H1 ⟨F1,S1,s1,q1⟩=>by
  refine(zH S1 hj hy hc hn hab).imp λv2 H2 ⟨e1,e2⟩=> ?_
  subst e1 e2;refine(hb σ F1 H2 S1).imp λu H3 ⟨F2,S2,s2,q2⟩=> ?_
  simp only[ResOk,Rep] at q2;subst q2;obtain⟨w,hw,fm,ew,sh,xs,q,ln,rl⟩:=aCM S2 hj;have lz:ks.length=xs.length:=by rw[ln,rl.len]
  have vn:iO (ks.zip xs) (.inl k)=none:=oP hk λ_ z=>z
  refine⟨m,_,rfl,DPut.k (k:=.inl k) q (by rw[jD,<-lz,oI,ln];exact eV hl), ?_⟩;rw[qC v vn,<-aHl lz];refine⟨_,F2,S2.reX (z':=shX X.K C fs q0 m (ks++[.inl k])<|ds++[d]) hj hw (λc o hc' e=>by rw[aR (λz=>hc'<|by rw[z];simp[shX,fC])];exact e) (λc o e=> ?_) ⟨w,rfl,λl hl=> ?_,λF' H' sF kp=>⟨ew,sh.mono sF,xs++[v],kp m (by simp) _ bJ,by rw[aN,aN,ln];rfl,(rl.app (.one<|Rep.mono s2 q1)).mono sF⟩⟩ (by simp[shX,fC]) (λl hl=>.inl<|by simpa[shX,fC] using hl),s1.trans s2,hE⟩
  ·by_cases z:c=m
   ·subst z;rw[bJ] at e;cases e;trivial
   ·rw[aR z] at e;exact S2.smp _ _ e
  ·rw[aH.mp hl]
   exact⟨fm,_,bJ,trivial⟩)
noncomputable def VP:R->Prop
 |.val _=>True
 |.pr _ _=>True
 |_=>False
theorem ResOk.chg{H':Hp}{sd':List Slot}{r:R}{v:V}(hr:VP r)(h:ResOk K F H sd r v)(s:Same H H')(ho:∀l∈bU sd',l∈bU sd\/H l=none):ResOk K F H' sd' r v:=by
 cases r with
 |val d=>exact h
 |pr d ls=>
  obtain⟨t,l,xs,y,e,f,g,n,q,rl,no⟩:=h;refine⟨t,l,xs,y,e,f,g,n,s _ _ q,rl,λhl=> ?_⟩
  rcases ho l hl with z|z
  ·exact no z
  ·rw[q] at z;cases z
 |_=>exact hr.elim
variable (Z:Lent K)
noncomputable def aOm(n:Nat)(C:Z.α->List D->R->Prop):Sp:=λvs H Q _=>vs.length=n/\∃ (v:V) (us:List V) (F:Hp) (a:Z.α) (ds:List D) (r:R),vs=v::us/\Same F H/\(∀b,b∉Z.own a->H b=F b)/\Smp H/\dM K F H (Z.sl a) (some v)/\(Z.own a).Nodup/\RepL K F ds us/\C a ds r/\VP r/\
 ∀v' H',(∃F',Same F F'/\Same F' H'/\Smp H'/\dM K F' H' (Z.sl a) (some v)/\ResOk K F' H' [Z.sl a] r v')->Q v' H'
noncomputable def spMR(n:Nat)(C:Z.α->List D->R->Prop):Sp:=λvs H Q _=>vs.length=n/\Smp H/\∃ (v:V) (us:List V) (F:Hp) (a:Z.α) (ds:List D) (r:R),vs=v::us/\Same F H/\dM K F H (Z.sl a) (some v)/\(Z.own a).Nodup/\RepL K F ds us/\C a ds r/\VP r/\
 ∀v' F' H',Same F F'->Same F' H'->Smp H'->dM K F' H' (Z.sl a) (some v)->(∀sd,(∀b∈bU sd,b∈Z.own a\/(∃o,H b=some o)/\F b=none)->ResOk K F' H' sd r v')->(∀b o,b∉Z.own a->H b=some o->H' b=some o)->(∀b o,b∉Z.own a->H b=some o->F b=none->F' b=none/\b∉Z.own a)->Q v' H'
def vlC(C:Z.α->List D->D->Prop):Z.α->List D->R->Prop:=λa ds r=>∃d,r=.val d/\C a ds d
noncomputable def aLe(n:Nat)(C:Z.α->List D->D->Prop):Sp:=aOm Z n<|vlC Z C
noncomputable def aNZ(n:Nat)(C:Z.α->List D->D->Prop):Sp:=λvs H Q _=>vs.length=n/\Smp H/\∃ (v:V) (us:List V) (F:Hp) (a:Z.α) (ds:List D) (d:D),vs=v::us/\Same F H/\dM K F H (Z.sl a) (some v)/\(Z.own a).Nodup/\RepL K F ds us/\C a ds d/\
 ∀v' F' H',Same F F'->Same F' H'->Smp H'->dM K F' H' (Z.sl a) (some v)->Rep K F' d v'->(∀b o,b∉Z.own a->H b=some o->H' b=some o)->(∀b o,b∉Z.own a->H b=some o->F b=none->F' b=none/\b∉Z.own a)->Q v' H'
noncomputable def rtV(a:Z.α)(d:D):R:=.ox λv as F H=>as=Z.own a/\Rep K F d v/\Z.G a (.ref<|Z.ad a) F H
noncomputable def rtR(a:Z.α):R->R
 |.pr d ls=>.ox λv as F H=>∃t l xs y,as=Z.own a++[l]/\v=.ref t/\F t=some (.tup [y,.ref l])/\Rep K F d y/\H l=some (.lst xs)/\RepL K F ls xs/\∀F2 H2,Same F F2->(∀b∈Z.own a,∀ob,H b=some ob->H2 b=some ob)->Z.G a (.ref<|Z.ad a) F2 H2
 |.val d=>rtV Z a d
 |r=>r
theorem FnOk.framedR{Z:Lent K}{n:Nat}{f:BF}{C:Z.α->List D->R->Prop}(G:FnOk P w K mg base CX0 k f fd ps (aOm Z n C)):FnOk P w K mg base CX0 k f fd ps (spMR Z n C):=by
 have res:∀ {F H:Hp}{a:Z.α}{v:V},Same F H->dM K F H (Z.sl a) (some v)->Same F (jZ (Z.own a) F H)/\Same (jZ (Z.own a) F H) H/\dM K F (jZ (Z.own a) F H) (Z.sl a) (some v):=λ{F H a v} sF so=>by
  obtain⟨v',ev,ow,gg⟩:=so;refine⟨λb o e=> ?_,λb o e=> ?_,v',ev,λb hb=>⟨(ow b hb).1, ?_⟩,λF' H' s k=>gg F' H' s λb hb ob e=>k b hb ob<|by rw[kO hb];exact e⟩
  ·by_cases h:b∈Z.own a
   ·rw[(ow b h).1] at e;cases e
   ·rw[gE h];exact e
  ·by_cases h:b∈Z.own a
   ·rw[kO h] at e;exact e
   ·rw[gE h] at e;exact sF b o e
  ·rw[kO hb];exact(ow b hb).2
 refine⟨λvs H Q E h=> ?_,λA outer s H args us vs Q E hr e0 hb rv h=> ?_⟩
 ·obtain⟨hl,sm,v,us,F,a,ds,d,e,sF,so,nd,rl,c,vp,_⟩:=h;obtain⟨q1,q2,q3⟩:=res sF so;exact G.len vs (jZ (Z.own a) F H) (λ_ _=>True) E ⟨hl,v,us,F,a,ds,d,e,q1,λb hb=>gE hb,sm.sub q2,q3,nd,rl,c,vp,λ_ _ _=>trivial⟩
 ·obtain⟨hl,sm,v,us',F,a,ds,d,ev,sF,so,nd,rl,c,vp,q⟩:=h;obtain⟨q1,sU,q3⟩:=res sF so;obtain⟨_,_,ow,_⟩:=id so;have nU:∀b,b∉Z.own a->F b=none->jZ (Z.own a) F H b=none:=λb hbl n=>by rw[gE hbl];exact n
  have e1:Env0 P w K mg base A outer s (jZ (Z.own a) F H):=⟨e0.frames,e0.mod,λb o e=>⟨(e0.bs b o e).1,sU.free (e0.bs b o e).2⟩,e0.bsz,e0.funs,λb hb=>sU.free<|e0.frf b hb,λb o e=>(e0.hok b o<|sU b o e).smp (sm b o<|sU b o e),e0.bare⟩;refine Aj (G.run A outer s (jZ (Z.own a) F H) args us vs (λv3 F3=>∃F',Same F F'/\Same F' F3/\Smp F3/\dM K F' F3 (Z.sl a) (some v)/\ResOk K F' F3 [Z.sl a] d v3) E hr e1 hb rv ⟨hl,v,us',F,a,ds,d,ev,q1,λb hb=>gE hb,sm.sub sU,q3,nd,rl,c,vp,λv' H' z=>z⟩) λrr s' hrr=> ?_
  cases rr with
  |error e=>exact hrr
  |ok flw=>
   cases flw with
   |ret u=>
    obtain⟨v3,F3,ho,ha,un,hk,ru,F2,s1,s2,sm3,so3,rp3⟩:=hrr
    have keepF:∀b o,b∉Z.own a->H b=some o->F b=none->F3 b=none:=λb o hbl e n=>by
     have lt:=e0.hok.lt e;cases g:s.heap.get? b with
     |none=>
      exfalso;have ob:=e0.hok b o e;have z:=sm b o e;cases o with
      |lst xs=>obtain⟨_,_,_,_,g'⟩:=ob;rw[g] at g';cases g'
      |tup xs=>obtain⟨_,_,_,oo,g',_⟩:=ob;rw[g] at g';cases g'
      |dK kvs=>obtain⟨_,_,_,_,oo,_,_,g',_⟩:=ob;rw[g] at g';cases g'
      |frz o2 u2=>obtain⟨g',_⟩:=ob;rw[g] at g';cases g'
      |ext φ=>obtain⟨_,⟨oo,g'⟩,_⟩:=ob;rw[g] at g';cases g'
      |_=>exact z
     |some ob=>exact un.free b ob g (nU b hbl n)<|by simp
    have keepO:∀b o,b∉Z.own a->H b=some o->F b=none->∀ob,s.heap.get? b=some ob->s'.heap.get? b=some ob:=λb o hbl e n ob g=>un.keep b ob g (nU b hbl n) (λhb=>by have:=e0.frf b hb;rw[e] at this;cases this)<|by simp
    have sH:∀b o,b∉Z.own a->H b=some o->fJ (Z.own a) F3 H b=some o:=λb o hbl e=>by
     cases g:F b with
     |none=>rw[fS hbl<|keepF b o hbl e g];exact e
     |some o'=>have:=sF b o' g;rw[e] at this;cases this;exact fE _ _ (s2 _ _<|s1 _ _ g)
    have nl:∀ {b:BF}{o:HO},H b=some o->¬ Wr b o->b∉Z.own a:=λe no z=>by obtain⟨_,ob,g,wr⟩:=ow _ z;rw[e] at g;cases g;exact no wr
    have nn:∀ {b:BF},H b=none->b∉Z.own a:=λe z=>by obtain⟨_,ob,g,_⟩:=ow _ z;rw[e] at g;cases g
    have smM:Smp (fJ (Z.own a) F3 H):=λb o e=>by
     by_cases hbl:b∈Z.own a
     ·unfold fJ at e;rw[if_pos hbl] at e;exact sm3 _ o e
     ·cases g:F3 b with
      |some o'=>have:=fE (as:=Z.own a) (H:=H) b o' g;rw[e] at this;cases this;exact sm3 b o g
      |none=>rw[fS hbl g] at e;exact sm b o e
    have soM:dM K F2 (fJ (Z.own a) F3 H) (Z.sl a) (some v):=by obtain⟨v',ev,ow3,gg⟩:=so3;refine⟨v',ev,λb hb=>⟨(ow3 b hb).1, ?_⟩,λF' H' s k=>gg F' H' s λb hb ob e=>k b hb ob<|fE _ _ e⟩;obtain⟨_,ob,g,wr⟩:=ow3 b hb;exact⟨ob,fE _ _ g,wr⟩
    refine⟨v3,fJ (Z.own a) F3 H,ho,ha,⟨λb o g n hb hx=>un.keep b o g (sU.free n) hb hx,λb o g n hb hx=>un.slot b o g (sU.free n) hb hx,λb o g n hx=> ?_,un.there,λb xs e=>sH _ _ (nl e λz=>z) e,λb o u e=>sH _ _ (nl e λz=>z) e,λb ps e=>⟨#[],by rw[sH _ _ (nl e λz=>z) e];simp⟩⟩,λb o e=> ?_,ru, ?_⟩
    ·rw[fS (nn n)<|un.free b o g (sU.free n) hx];exact n
    ·have z:=smM b o e
     by_cases hbl:b∈Z.own a
     ·have e':F3 b=some o:=by unfold fJ at e;rw[if_pos hbl] at e;exact e
      exact(hk b o e').smp z
     ·cases g:F3 b with
      |some o'=>have:=fE (as:=Z.own a) (H:=H) b o' g;rw[e] at this;cases this;exact(hk b o g).smp z
      |none=>
       rw[fS hbl g] at e
       have n:F b=none:=by
        cases g2:F b with
        |none=>rfl
        |some o2=>rw[s2 _ _<|s1 _ _ g2] at g;cases g
       have st:=(e0.hok b o e).smp (F:=λ_=>none) z
       have:ObjOk P w (fun _=>none) s'.heap b o:=st.stay (fun b2 u hb2 gg=>by
        rcases hb2 with rfl|hb2
        ·exact keepO _ o hbl e n u gg
        ·cases hb2) (λb2 hb2=>nomatch hb2) λb2 xs hb2=>nomatch hb2
       exact this.smp z
    ·refine q v3 F2 (fJ (Z.own a) F3 H) s1 (s2.trans fE) smM soM (λsd hsd=>rp3.chg vp fE λb hb=>(hsd b hb).elim (λz=>.inl<|by simpa[bU,fC,Lent.sl] using z) λz=>if hbl:b∈Z.own a then .inl (by simpa[bU,fC,Lent.sl] using hbl) else .inr (let ⟨o,e⟩:=z.1;keepF b o hbl e z.2)) sH λb o hbl e n=> ?_
     have n3:=keepF b o hbl e n;refine⟨s2.free n3,λhb=> ?_⟩;obtain⟨_,_,ow3,_⟩:=so3;obtain⟨_,ob,g,_⟩:=ow3 b hb;rw[n3] at g;cases g
   |_=>exact hrr
theorem FnOk.weak{f:BF}{S1 S2:Sp}(G:FnOk P w K mg base CX0 k f fd ps S1)(h:∀vs H Q E,S2 vs H Q E->S1 vs H Q E):FnOk P w K mg base CX0 k f fd ps S2:=⟨λvs H Q E z=>G.len vs H Q E<|h _ _ _ _ z,λA outer s H args us vs Q E hr e0 hb rv z=>G.run A outer s H args us vs Q E hr e0 hb rv<|h _ _ _ _ z⟩
theorem FnOk.framedV{Z:Lent K}{n:Nat}{f:BF}{C:Z.α->List D->D->Prop}(G:FnOk P w K mg base CX0 k f fd ps (aLe Z n C)):FnOk P w K mg base CX0 k f fd ps (aNZ Z n C):=FnOk.weak (FnOk.framedR G) λvs H Q E h=>by obtain⟨hl,sm,v,us,F,a,ds,d,ev,sF,so,nd,rl,c,q⟩:=h;exact⟨hl,sm,v,us,F,a,ds,.val d,ev,sF,so,nd,rl,⟨d,rfl,c⟩,trivial,λv' F' H' s1 s2 sm' so' res kp kf=>q v' F' H' s1 s2 sm' so' (res [] λb hb=>by cases hb) kp kf⟩
theorem aMH{Z:Lent K}{f:BF}{C:Z.α->List D->R->Prop}(F:Fun K x qual st f fd)(S:fK N ps (aK st))
  (body:∀ (cdv:BD) (A:BG) (outer:List Env) (s:BE) (H:Hp) (E:XK) (B:Hp) (hB:∀b o,H b=some o→mY o→B b=some o),Room k (A.deeper (Ag qual (aK st) s.heap.objs.size f cdv))→∀a ds r,ds.length+1=ps.length→C a ds r→
   PSd (reB (jB CX0 P w K mg base N qual (aK st) f cdv A outer s H E).nox B hB) (jQ Z N.length a ds) (cM st) {nx:=λ_=>False,rt:=λr'=>r'=rtR Z a r})
  (hw:∀ (a:Z.α) (v:V) (F H:Hp) (b:BF) (o:HO),Z.G a v F H->b∈Z.own a->H b=some o->¬ mY o):FnOk P w K mg base CX0 (k+1) f fd ps (aOm Z ps.length C):=by
 refine F.ok S (λvs H Q E h=>h.1) λcdv A outer s H vs Q E hr h=> ?_
 obtain⟨hl,v,us,F0,a,ds,d,rfl,sF,hH,sm,so,nd,rl,c,vp,q⟩:=h;have hds:ds.length+1=ps.length:=by rw[<-rl.len];exact hl
 have hB:∀b o,H b=some o->mY o->F0 b=some o:=λb o e no=>by
  by_cases hbl:b∈Z.own a
  ·obtain⟨_,_,_,gg⟩:=so;exact absurd no<|hw a _ F0 H b o (gg F0 H (Same.refl _) λ_ _ _ e=>e) hbl e
  ·rw[<-hH b hbl];exact e
 refine⟨_,pss_w,zQ (B:=F0) (hb:=hB) ?_⟩;have hlen:N.length-(us.length+1)=N.length-(ds.length+1):=by rw[rl.len]
 have S0:StF K F0 F0 H (L2.start N (v::us)) (jQ Z N.length a ds):=by
  refine⟨Same.refl _,sF,sm, ?_, ?_⟩
  ·unfold L2.start jQ;show SlotsOk K F0 _ (_::_) (some v::(us.map some++eC (N.length-(us.length+1)) none));rw[hlen];exact⟨_,_,rfl,so,gT (m:=0) rl⟩
  ·unfold jQ;rw[lB,hX,bG];exact nd
 refine(body cdv A outer s _ E F0 hB hr a ds d hds c (L2.start N (v::us)) F0 _ S0).imp (λ_ _ ⟨_,_,_,_,z⟩=>z.elim) ?_ (λ_ _ ⟨_,_,_,_,z⟩=>z) λ_ _ ⟨_,_,_,_,z⟩=>z
 rintro v' H' ⟨r',ro,e⟩;have e:r'=rtR Z a d:=e;subst e;obtain⟨v0,ev,_,g0⟩:=so;cases ev;have e0:=Z.hv<|g0 F0 H (Same.refl _) λ_ _ _ e=>e;cases d with
 |val d=>
  obtain⟨F',b1,b2,b3,as,nd',ow,gg⟩:=ro;obtain⟨e1,e2,e3⟩:=gg F' H' (Same.refl _) λ_ _ _ e=>e
  subst e1;refine q v' H' ⟨F',b1,b2,b3,⟨v,rfl,λl hl=>⟨(ow l hl).1,(ow l hl).2.1⟩,λF2 H2 s2 k2=> ?_⟩,e2⟩;rw[e0];exact(gg F2 H2 s2 k2).2.2
 |pr d ls=>
  obtain⟨F',b1,b2,b3,as,nd',ow,gg⟩:=ro;obtain⟨t,l,xs,y,e1,e2,e3,e4,e5,e6,e7⟩:=gg F' H' (Same.refl _) λ_ _ _ e=>e
  subst e1;have nl:l∉Z.own a:=λz=>(bE.mp nd').2.2 l z l (by simp) rfl
  refine q v' H' ⟨F',b1,b2,b3,⟨v,rfl,λl hl=>⟨(ow l<|bL _ hl).1,(ow l<|bL _ hl).2.1⟩,λF2 H2 s2 k2=> ?_⟩,t,l,xs,y,e2,e3,e4,(ow l<|by simp).1,e5,e6,by simpa[bU,fC,Lent.sl] using nl⟩;rw[e0];exact e7 F2 H2 s2 k2
 |_=>exact vp.elim
theorem aHM{Z:Lent K}{f:BF}{C:Z.α->List D->D->Prop}(F:Fun K x qual st f fd)(S:fK N ps (aK st))
  (body:∀ (cdv:BD) (A:BG) (outer:List Env) (s:BE) (H:Hp) (E:XK) (B:Hp) (hB:∀b o,H b=some o→mY o→B b=some o),Room k (A.deeper (Ag qual (aK st) s.heap.objs.size f cdv))→∀a ds d,ds.length+1=ps.length→C a ds d→
   PSd (reB (jB CX0 P w K mg base N qual (aK st) f cdv A outer s H E).nox B hB) (jQ Z N.length a ds) (cM st) {nx:=λ_=>False,rt:=λr=>r=rtV Z a d})
  (hw:∀ (a:Z.α) (v:V) (F H:Hp) (b:BF) (o:HO),Z.G a v F H→b∈Z.own a→H b=some o→¬ mY o):FnOk P w K mg base CX0 (k+1) f fd ps (aLe Z ps.length C):=aMH (C:=vlC Z C) F S (fun cdv A outer s H E B hB hr a ds r hl c=>by
 obtain⟨d,rfl,c⟩:=c
 exact body cdv A outer s H E B hB hr a ds d hl c) hw
noncomputable def shL(K:aA)(C:BF)(fs:List (Str×D))(J:List Key->List D->Prop):Lent K where
 α:=BF×BF
 ad a:=a.1
 own a:=[a.2]
 G a v F H:=v=.ref a.1/\ShD K C fs a.2 v F/\∃ks ds,J ks ds/\mdO K a.2 ks ds F H
 hv h:=h.1
variable {J:List Key->List D->Prop}{sts:List BJ}
theorem yR(i:Nat){a:BF×BF}(hs:sd[i]? =some ((shL X.K C fs J).sl a))(h:∀ks ds,J ks ds->PSd X (sd.set i<|shX X.K C fs a.1 a.2 ks ds) sts E):PSd X sd sts E:=.mk λσ F H S=>by
 obtain⟨o,h1,v,h2,q,g⟩:=S.slots.get hs;obtain⟨ev,g1,ks,ds,hj,xs,q1,q2,q3⟩:=g F H (Same.refl _) λ_ _ _ e=>e
 have S2:StF X.K X.B₀ F H σ (sd.set i<|shX X.K C fs a.1 a.2 ks ds):=S.reX (z':=shX X.K C fs a.1 a.2 ks ds) hs h1 (λ_ _ _ e=>e) S.smp ⟨v,h2,q,λF' H' sF k=>⟨ev,g1.mono sF,xs,k _ (by simp) _ q1,q2,q3.mono sF⟩⟩ (by simp[shX,fC]) (λl hl=>.inl<|by simpa[shX,fC,Lent.sl,shL] using hl);exact h ks ds hj σ F H S2
theorem aBp{Z:Lent X.K}{a:Z.α}(i:Nat)(hs:sd[i]? =some (Z.sl a))(h:PEd X sd e (.val d))(hE:E.rt (rtV Z a d)):PSd1 X sd (.Return (some e) pos) E:=.mk λσ F H S=>
 (rW eR).to ((h σ F H S).imp fun v H1 ⟨F1,S1,s1,q1⟩=>by
  obtain⟨o,h1,v0,h2,ow,gg⟩:=S1.slots.get hs;have ev:=Z.hv<|gg F1 H1 (Same.refl _) λ_ _ _ e=>e;subst ev
  exact⟨rtV Z a d,⟨F1,S1.base,S1.sub,S1.smp,Z.own a,gU S1.nd hs,λl hl=>⟨(ow l hl).1,(ow l hl).2,by simp[bU]⟩,λF' H' sF k=>⟨rfl,Rep.mono sF q1,gg F' H' sF k⟩⟩,hE⟩)
theorem aBz{a:BF×BF}(i:Nat)(hs:sd[i]? =some (shX X.K C fs a.1 a.2 ks ds))(hJ:J ks ds)(h:PEd X sd e (.val d))(hE:E.rt (rtV (shL X.K C fs J) a d)):PSd1 X sd (.Return (some e) pos) E:=.mk λσ F H S=>
 (rW eR).to ((h σ F H S).imp fun v H1 ⟨F1,S1,s1,q1⟩=>by
  obtain⟨o,h1,v0,h2,ow,gg⟩:=S1.slots.get hs
  exact ⟨rtV (shL X.K C fs J) a d,⟨F1,S1.base,S1.sub,S1.smp,[a.2],gU S1.nd hs,fun l hl=>⟨(ow l hl).1,(ow l hl).2,by simp [bU]⟩,fun F' H' sF k=>⟨rfl,Rep.mono sF q1,by
   obtain⟨g0,g1,g2⟩:=gg F' H' sF k;subst g0
   exact⟨rfl,g1,ks,ds,hJ,g2⟩⟩⟩,hE⟩)
theorem jT{a:BF×BF}(j:Nat)(hj:sd[j]? =some ((shL X.K C fs J).sl a))(hy:PE X (.Name y p) (iI j))(hc:Cls X.K C)(hn:NoAttr X.K C f)(hf:fs.lookup f=some d)(hb:Ae (.Name y p) f X.env (eval (.Name y p) X.env)=eval (.Name y p) X.env:=by rfl):
  PEd X sd (.Attribute (.Name y p) f pos) (.val d):=.mk λσ F H S pins s I=>by
 obtain⟨o,h1,v,h2,_,gg⟩:=S.slots.get hj;obtain⟨_,⟨x,dx,od,mA,rfl,e1,e2,ne,ns,q,_⟩,_⟩:=gg F H (Same.refl _) λ_ _ _ e=>e
 obtain⟨y0,u0,hm,ru,rp⟩:=q f d hf;refine zG hb<|thn (hy pins s σ H (λv' H'=>v'=.ref x/\H'=H) I ⟨.ref x,by rw[h1,h2],rfl,rfl⟩) λu s1 ⟨v',H',I1,r1,ev,eH⟩=> ?_;subst ev eH;cases(show u=Value.ref x from r1);have g1:s1.heap.get? x=some (cB C dx):=(I1.hok x _<|S.sub _ _ e1).1;have g2:s1.heap.get? dx=some od:=(I1.hok dx _<|S.sub _ _ e2).1;exact zJ I1.kIn ⟨g1,ns _ g2,ne⟩ (hc.get f) hc.hd hn hm (rY ru) ⟨y0,H',I1.tok _,ru,F,S,Same.refl _,rp⟩
theorem nY{k:Int}(j:Nat)(hu:X.A.units+1<AS)(hj:sd[j]? =some (shX X.K C fs q0 m ks ds))(hy:PE X (.Name y p) (iI j))(hc:Cls X.K C)(hn:NoAttr X.K C "made")(hb:PEd X sd b (.val<|.int k))(t:Bool)(ht:∀xs:List V,ks.length=xs.length->(iO (ks.zip xs)<|.inl k).isSome= !t)(hab:Ae (.Name y p) "made" X.env (eval (.Name y p) X.env)=eval (.Name y p) X.env:=by rfl)(hbm:AU .NotIn (.Attribute (.Name y p) "made" pa)=false:=by rfl):
  PTd X sd (.Compare b [.NotIn] [.Attribute (.Name y p) "made" pa] pos) t:=.mk λσ F H S=>
 (aMw (aEF hu eR eR) hbm).to ((hb σ F H S).imp fun u H1 ⟨F1,S1,s1,q1⟩=>by
  simp only[ResOk,Rep] at q1;subst q1;refine(zH S1 hj hy hc hn hab).imp λv H2 ⟨e1,e2⟩=> ?_
  subst e1 e2;obtain⟨_,_,_,_,_,xs,q,ln,rl⟩:=aCM S1 hj;refine⟨m,iO (ks.zip xs)<|.inl k,rfl,.inl ⟨_,.inl k,.inl q,rfl,rfl⟩, ?_⟩;rw[ht xs<|by rw[ln,rl.len]]
  exact⟨t,by simp,rfl,F1,S1,s1⟩)
structure pV(P:AE)(w:AL)(K:aA)(Z:Lent K)(mg:Str->Option BD)(base:BH)(x:Str)(k n:Nat)(C:Z.α->List D->D->Prop):Prop where
 ex:∃ (f:BF) (fd:AN) (ps:List Str),mg x=some (.ref f)/\cG K (.ref f)=true/\Binds K fd ps []/\FnOk P w K mg base CX0 k f fd ps (aLe Z n C)
def aIK(K:aA)(C:BF)(m:Str)(x:BF)(F:Hp):Prop:=∃ (dx:BF) (od:BI) (mA:Str->Option BD),F x=some (exO x<|cB C dx)/\F dx=some (exO dx od)/\dx≠x/\(∀h:BH,h.get? dx=some od->h.Ns1 dx mA)/\mA m=none
variable {p2 apos:Pos}{Cl f:BF}{m g:Str}{n:Nat}
theorem aftV{Z:Lent X.K}{C:Z.α->List D->D->Prop}{a:Z.α}{v:V}{us:List V}{Q:VK}{E:XK}(i:Nat)(hs:sd[i]? =some (Z.sl a))(S:StF X.K X.B₀ F H σ sd)(hv:σ[i]? =some (some v))(rl:RepL X.K F ds us)(hc:C a ds d)(hn:ds.length+1=n)
  (q:∀v' F' H',StF X.K X.B₀ F' H' σ sd->Same F F'->Rep X.K F' d v'->Q v' H'):aNZ Z n C (v::us) H Q E:=by
 obtain⟨o1,g1,so⟩:=S.slots.get hs
 have eo:o1=some v:=by rw[hv] at g1;exact(bM.inj g1).symm
 subst eo;refine⟨by rw[bD,rl.len];exact hn,S.smp,v,us,F,a,ds,d,rfl,S.sub,so,gU S.nd hs,rl,hc,λv' F' H' s2 s3 sm so' rp kp kf=>q v' F' H' ?_ s2 rp⟩;have S2:=S.le<|gB sd i;have no:∀b,b∈bU (sd.set i .un)->b∉Z.own a:=λb hb z=>gF S.nd hs (show b∈fC (Z.sl a) from z) hb
 have S3:StF X.K X.B₀ F' H' σ (sd.set i .un):=⟨fun b o e=>s2 _ _ (S.base _ _ e),s3,sm,S2.slots.mono s2 fun b hb=>by
  obtain⟨n1,ob,e,_⟩:=S2.slots.owns hb
  exact⟨(kf b ob (no b hb) e n1).1,λxs e'=>kp b xs (no b hb) e'⟩,S2.nd⟩
 have S4:=S3.setT i so' (gU S.nd hs) λb hb hb2=>by obtain⟨n1,ob,e,_⟩:=S2.slots.owns hb2;exact(kf b ob (no b hb2) e n1).2 hb
 rw[jF,lF g1] at S4
 have es:sd.set i (Slot.ox (Z.own a)<|Z.G a)=sd:=by obtain⟨hi,e⟩:=aD.mp hs;rw[show Slot.ox (Z.own a) (Z.G a)=sd[i] from e.symm];exact oZ hi
 rw[es] at S4;exact S4
theorem aHr{pl:Sem Bool}{Z:Lent X.K}{C:Z.α->List D->D->Prop}{a:Z.α}(i:Nat)(hs:sd[i]? =some (Z.sl a))(hxi:PE X (.Name x p2) (iI i))(hi:∀F H,Z.G a (.ref<|Z.ad a) F H->aIK X.K Cl m (Z.ad a) F)(c:Cls X.K Cl)(hm:aKW X.K Cl m f)(G:FnOk X.prog X.w X.K X.mg X.base CX0 k f fd ps (aLe Z n C))(hr:Room k X.A)(bd:Binds X.K fd ps [])(ha:PAd X sd (e::es) (ds.map R.val))(hc:C a ds d)(hn:ds.length+1=n)
  (hst:AB (e::es) X.env=(false,eval e X.env)::AB es X.env:=by rfl) (hpl:(Aa pos<|AB es X.env).any (·.1)=false:=by rfl)
  (ht:eval (.Call (.Attribute (.Name x p2) m apos) (e::es) [] pos) X.env=(do
   let ov <-eval (.Name x p2) X.env
   standAt apos.atName
   let (f,first) <-holding [ov] (getMethod ov m pl)
   callWith pos f first (Aa pos (AB (e::es) X.env)) (backToKw pos (keywordEach [] X.env))):=by rfl):
  PEd X sd (.Call (.Attribute (.Name x p2) m apos) (e::es) [] pos) (.val d):=.mk λσ F H S pins s I=>by
 obtain⟨o0,h1,v,h2,_,gg⟩:=S.slots.get hs;have g0:=gg F H (Same.refl _) λ_ _ _ e=>e
 have ev:=Z.hv g0;subst h2 ev;obtain⟨dx,od,mA,e1,e2,ne,ns,hmA⟩:=hi F H g0;refine aAD (pl:=pl) (thn (hxi pins s σ H (λv' H'=>v'=.ref (Z.ad a)/\H'=H) I ⟨.ref<|Z.ad a,h1,rfl,rfl⟩) λu s1 ⟨v',H',I1,r1,ev,eH⟩=> ?_) ht;subst ev eH;cases(show u=Value.ref (Z.ad a) from r1);have g1:s1.heap.get? (Z.ad a)=some (cB Cl dx):=(I1.hok _ _<|S.sub _ _ e1).1;have g2:s1.heap.get? dx=some od:=(I1.hok dx _<|S.sub _ _ e2).1;refine aBc I1.kIn ⟨g1,ns _ g2,ne⟩ (c.get m) hm.at_ hm.fn hmA ?_;refine eE (first:=[.ref<|Z.ad a]) (h₀:=X.base) I.ok.mod.kin hm.kp (thn ((qT:PA X (e::es) _) pos pins s1 σ H' _ I1<|ha σ F H' S) λus s2 ⟨vs,H2,I2,r,F1,S1,s1',q1⟩=>⟨I2.kIn, ?_⟩) hst hpl;refine aId (us:=.ref (Z.ad a)::us) (vs:=.ref (Z.ad a)::vs) (FnOk.framedV G) hr bd .nil aCK I2 (.cons rfl r) ?_;rw[bG];exact aftV i hs S1 h1 q1.vals hc hn λv' F' H' S' s' r'=>⟨F',S',s1'.trans s',r'⟩
structure PSo(X:Cx)(sd:List Slot)(e:Expr)(Z:Lent X.K):Prop where
 run:∀ (σ:St) (F H:Hp),StF X.K X.B₀ F H σ sd->wE X e σ H λv H'=>∃F' a,StF X.K X.B₀ F' H' σ sd/\Same F F'/\dM X.K F' H' (Z.sl a) (some v)/\(Z.own a).Nodup/\∀l∈Z.own a,l∉bU sd
noncomputable def aFJ:List Nat->TA
 |[]=>aFG
 |j::js=>nV (iI j)<|aFJ js
theorem StF.layW{H₀:Hp}{p:BF}{o:HO}(S:StF K H₀ F H σ sd)(hp:H p=none)(ho:aNI o):StF K H₀ F (upd H p o) σ sd/\F p=none/\p∉bU sd:=by
 have fp:F p=none:=S.sub.free hp;refine⟨⟨S.base,λb u e=> ?_,λb u e=> ?_,S.slots.mono (Same.refl _) λl hl=> ?_,S.nd⟩,fp,λhl=> ?_⟩
 ·rw[aR<|cC e fp];exact S.sub _ _ e
 ·by_cases h:b=p
  ·subst h;rw[bJ] at e;cases e;exact ho
  ·rw[aR h] at e;exact S.smp _ _ e
 ·obtain⟨n,ys,q,_⟩:=S.slots.owns hl;have hne:l≠p:=cC q hp;exact⟨n,λys e=>by rw[aR hne];exact e⟩
 ·obtain⟨n,ys,q,_⟩:=S.slots.owns hl;rw[hp] at q;cases q
theorem sA{K:aA}{H₀ F H:Hp}{σ:St}{sd:List Slot}(S:StF K H₀ F H σ sd):∀ {js:List Nat}{ds:List D},js.map (λj=>sd[j]?)=ds.map (λd=>some<|Slot.val d)->∃us,RepL K F ds us/\∀H1 Q,Q us H1->aFJ js σ H1 Q
 |[],[],_=>⟨[],.nil,λ_ _ q=>q⟩
 |[],_::_,h=>by cases h
 |_::_,[],h=>by cases h
 |j::js,d::ds,h=>by obtain⟨h1,h2⟩:=aCB.inj h;obtain⟨us,r,q⟩:=sA S h2;obtain⟨o,g1,v,g2,rp⟩:=S.slots.get h1;exact⟨v::us,.cons rp r,λH1 Q qq=>⟨v,by rw[g1,g2],q H1 _ qq⟩⟩
theorem aEW{e0:Expr}{Z:Lent X.K}{C:Z.α->List D->D->Prop}(js:List Nat)(h0:PSo X sd e0 Z)(G:pV X.prog X.w X.K Z X.mg X.base g k n C)(hr:Room k X.A)(hg:Gl X g)(ha:PA X es (aFJ js))(hj:js.map (λj=>sd[j]?)=ds.map λd=>some<|Slot.val d)(hc:∀a,C a ds d)(hn:ds.length+1=n)
  (hdb:(g==("__debug__":Str))=false:=by decide) (he:AB (e0::es) X.env=(false,eval e0 X.env)::AB es X.env:=by rfl) (hpl:(Aa pos<|AB es X.env).any (·.1)=false:=by rfl):
  PEd X sd (.Call (.Name g p) (e0::es) [] pos) (.val d):=.mk λσ F H S=>by
 obtain⟨fa,fd,ps,hm,hkp,bd,G⟩:=G.ex;refine(zF (FnOk.framedV G) hr hg hm hkp bd .nil aCK (cY eR ha he) hdb he hpl).to<|(h0.run σ F H S).imp λv H1 ⟨F1,a,S1,s1,so,nd,no⟩=> ?_;obtain⟨us,rl,q⟩:=sA S1 hj;refine q H1 _ ?_;show aNZ Z n C (v::us++[]) H1 _ _;rw[bG];refine⟨by rw[bD,rl.len];exact hn,S1.smp,v,us,F1,a,ds,d,rfl,S1.sub,so,nd,rl,hc a,λv' F' H' s2 s3 sm so' rp kp kf=>⟨F', ?_,s1.trans s2,rp⟩⟩
 exact ⟨fun b o e=>s2 _ _ (S1.base _ _ e),s3,sm,S1.slots.mono s2 fun b hb=>by
  obtain⟨n1,ob,e,_⟩:=S1.slots.owns hb
  exact⟨(kf b ob (λz=>no b z hb) e n1).1,λxs e'=>kp b xs (λz=>no b z hb) e'⟩,S1.nd⟩
theorem nsm4:¬ ("book_up_to":Str)="made":=by decide+kernel
theorem nsm5:¬ ("book_up_to":Str)="stock":=by decide+kernel
theorem nsm6:¬ ("book_up_to":Str)="size":=by decide+kernel
theorem aGO(v1 v2:V)(m:BF):(shF v1 v2 m).lookup ("made":Str)=some (.ref m):=by unfold shF;rw[eY,if_pos rfl]
theorem aGz(v1 v2:V)(m:BF):(shF v1 v2 m).lookup ("book_up_to":Str)=none:=by unfold shF;rw[eY,if_neg nsm4,eY,if_neg nsm5,eY,if_neg nsm6];rfl
noncomputable def qN(C:BF):Sp:=λvs H Q _=>∃ (x dx:BF) (v1 v2:V),vs=[.ref x,v1,v2]/\H x=some (.ins C dx [])/\∀m,H m=none->Q .non (upd (upd H m<|.dK []) x (.ins C dx<|shF v1 v2 m))
theorem uD{e1 e2:Expr}{d1 d2:D}(hJ:J [] [])(T:nE X.K X.mg C)(M:Mk X.K C f)(G:FnOk X.prog X.w X.K X.mg X.base CX0 1 f fd ["self","size","stock"] (qN C))(hb:Binds X.K fd ["self","size","stock"] [])(hr:Room 2 X.A)(hg:Gl X "Shelf")(ha:PAd X sd [e1,e2] [.val d1,.val d2])
  (he:AB (e1::[e2]) X.env=(false,eval e1 X.env)::AB [e2] X.env:=by rfl) (hpl:(Aa pos<|AB [e2] X.env).any (·.1)=false:=by rfl):
  PSo X sd (.Call (.Name "Shelf" p) [e1,e2] [] pos) (shL X.K C [("size",d1),("stock",d2)] J):=⟨fun σ F H S pins s I=>by
 refine thn ((aJD M G hr hg T.mgC hb .nil aCK qT (by decide) he hpl) pins s σ H (λv H2=>∃ (x dx m:BF) (v1 v2:V) (F1 H1:Hp),v=.ref x/\StF X.K X.B₀ F1 H1 σ sd/\Same F F1/\Rep X.K F1 d1 v1/\Rep X.K F1 d2 v2/\H1 x=none/\H1 dx=none/\H1 m=none/\dx≠x/\m≠x/\m≠dx/\H2=upd (upd (upd (upd H1 dx<|.own x) x<|.ins C dx []) m<|HO.dK []) x (.ins C dx<|shF v1 v2 m)) I ?_) λu s1 ⟨v,H2,I2,r,x,dx,m,v1,v2,F1,H1,ev,S1,s1',q1,q2,n1,n2,n3,ne,ne2,ne3,eH⟩=> ?_
 ·refine(ha σ F H S).imp λvs H1 ⟨F1,S1,s1,q⟩=> ?_
  intro x dx n1 n2 ne
  obtain⟨v1,vs1,rfl,a1,t1⟩:∃v1 vs1,vs=v1::vs1/\ResOk X.K F1 H1 sd (.val d1) v1/\RsOk X.K F1 H1 sd [.val d2] vs1:=by
   cases q with
   |cons a b=>exact⟨_,_,rfl,a,b⟩
  obtain⟨v2,vs2,rfl,a2,t2⟩:∃v2 vs2,vs1=v2::vs2/\ResOk X.K F1 H1 sd (.val d2) v2/\RsOk X.K F1 H1 sd [] vs2:=by
   cases t1 with
   |cons a b=>exact⟨_,_,rfl,a,b⟩
  cases t2;refine⟨x,dx,v1,v2,rfl,bJ,λm hm=>⟨rfl,x,dx,m,v1,v2,F1,H1,rfl,S1,s1,a1,a2,n1,n2, ?_,ne, ?_, ?_,rfl⟩⟩
  ·by_cases h1:m=x
   ·subst h1;rw[bJ] at hm;cases hm
   ·by_cases h2:m=dx
    ·subst h2;rw[aR h1,bJ] at hm;cases hm
    ·rw[aR h1,aR h2] at hm;exact hm
  ·intro h1;subst h1;rw[bJ] at hm;cases hm
  ·intro h2;subst h2;rw[aR ne,bJ] at hm;cases hm
 ·subst ev eH;obtain⟨mA,O,rel,_,_,_⟩:=aDK I2.hok bJ;obtain⟨od,es,ep,ho,rest⟩:=id O.ns;have hx:=O.obj
  have keep:∀b o,H1 b=some o->(upd (upd (upd H1 m<|HO.dK []) x (exO x<|cB C dx)) dx<|exO dx od) b=some o:=λb o e=>by rw[aR<|cC e n2,aR<|cC e n1,aR<|cC e n3];exact e
  have I3:Inv X pins σ (upd (upd (upd H1 m<|HO.dK []) x (exO x<|cB C dx)) dx<|exO dx od) s1:=by
   refine Inv.reB I2 (λb hb=> ?_) (λb o e=>keep b o (S1.sub _ _<|S1.base _ _ e)) λb o e=> ?_
   ·by_cases h1:b=x
    ·subst h1;rw[bJ] at hb;cases hb
    ·by_cases h2:b=m
     ·subst h2;rw[aR h1,bJ] at hb;cases hb
     ·by_cases h3:b=dx
      ·subst h3;rw[aR h1,aR h2,aR h1,bJ] at hb;cases hb
      ·rw[aR h1,aR h2,aR h1,aR h3] at hb;rw[aR h3,aR h1,aR h2];exact hb
   ·by_cases h3:b=dx
    ·subst h3;rw[bJ] at e;cases e;exact nQ ho
    ·by_cases h1:b=x
     ·subst h1;rw[aR h3,bJ] at e;cases e;exact nQ hx
     ·by_cases h2:b=m
      ·subst h2;rw[aR h3,aR h1,bJ] at e;cases e;exact(I2.hok b (HO.dK [])<|by rw[aR ne2,bJ]).smp trivial
      ·rw[aR h3,aR h1,aR h2] at e;exact(I2.hok b o<|by rw[aR h1,aR h2,aR h1,aR h3];exact e).smp<|S1.smp _ _ e
  obtain⟨A1,fm,om⟩:=S1.layW (o:=HO.dK []) n3 trivial;obtain⟨A2,t2⟩:=A1.lay (p:=x) (o:=exO x<|cB C dx) (by rw[aR<|Ne.symm ne2];exact n1) trivial;obtain⟨A3,t3⟩:=A2.lay (p:=dx) (o:=exO dx od) (by rw[aR ne,aR<|Ne.symm ne3];exact n2) trivial;have tt:=t2.trans t3
  have hmade:mA "made"=some (.ref m):=by obtain⟨u1,hu,ru⟩:=RelO.some_of (v:=.ref m) (o:=mA "made") (by rw[<-aGO v1 v2 m];exact rel "made");rw[hu];exact congrArg some ru
  have sh:ShD X.K C [("size",d1),("stock",d2)] m (.ref x) (upd (upd F1 x (exO x<|cB C dx)) dx<|exO dx od):=by
   refine⟨x,dx,od,mA,rfl,by rw[aR<|Ne.symm ne,bJ],bJ,ne,λh hh=>⟨od,es,ep,hh,rest⟩,λg d hg=> ?_,hmade,RelO.none_of<|by rw[<-aGz v1 v2 m];exact rel "book_up_to"⟩
   by_cases g1:g="size"
   ·subst g1;have:d1=d:=bM.inj hg;subst this;obtain⟨u1,hu,ru⟩:=RelO.some_of (v:=v1) (o:=mA "size") (by rw[<-aGE v1 v2 m];exact rel "size");exact⟨v1,u1,hu,ru,q1.mono tt⟩
   ·by_cases g2:g="stock"
    ·subst g2;have:d2=d:=bM.inj hg;subst this;obtain⟨u1,hu,ru⟩:=RelO.some_of (v:=v2) (o:=mA "stock") (by rw[<-aEE v1 v2 m];exact rel "stock");exact⟨v2,u1,hu,ru,q2.mono tt⟩
    ·have b1:(g==("size":Str))=false:=beq_eq_false_iff_ne.mpr g1;have b2:(g==("stock":Str))=false:=beq_eq_false_iff_ne.mpr g2;simp only[iF,b1,b2] at hg;cases hg
  have hH:upd (upd (upd H1 m<|HO.dK []) x (exO x<|cB C dx)) dx (exO dx od) m=some (.dK []):=by rw[aR ne3,aR ne2,bJ]
  have hF:upd (upd F1 x (exO x<|cB C dx)) dx (exO dx od) m=none:=by rw[aR ne3,aR ne2];exact fm
  exact⟨.ref x,_,I3,r,_,(x,m),A3,s1'.trans tt,⟨.ref x,rfl,λl hl=>by rw[aH.mp hl];exact⟨hF,_,hH,trivial⟩,λF' H' sF kp=>⟨rfl,sh.mono sF,[],[],hJ,[],kp m (bX m) _ hH,rfl,.nil⟩⟩,bS.mpr ⟨by simp,cI⟩,λl hl=>by rw[aH.mp hl];exact om⟩⟩
variable {s':BE}{tg iter:Expr}{Old:BF->Prop}
structure ExcO(Old:BF->Prop)(h:BH)(H:Hp)(a T:BF)(cls:BD):Prop where
 free:H a=none
 new:¬ Old a
 freeT:H T=none
 newT:¬ Old T
 obj:∃oe vs oT ts a0,h.get? a=some oe/\(oe.cls=cls/\vs[0]? =some a0)/\oe.data=.fields vs/\vs[1]? =some (.ref T)/\T≠a/\h.get? T=some oT/\oT.data=.fields ts/\ts[3]? =some .none
def aHH(X:Cx)(Old:BF->Prop)(cls:BD)(sd:List Slot):Prop:=∀ (pins:List (BF×BI)) (σ:St) (F H:Hp) (s:BE) (a T:BF),Inv X pins σ H s->StF X.K X.B₀ F H σ sd->ExcO Old s.heap H a T cls->(∀p∈X.pn++pins,p.1≠a/\p.1≠T)->X.xe (.ref a) s
def aLO(X:Cx)(Old:BF->Prop):Prop:=∀ (pins:List (BF×BI)) (σ:St) (H:Hp) (s:BE),Inv X pins σ H s->∀b,Old b->∃o,s.heap.get? b=some o
def Ent(X:Cx):BF->Prop:=λb=>∃o,X.s₀.heap.get? b=some o
theorem rR(hex:X.ex=[]):aLO X (Ent X):=λpins σ H s I b ⟨o,g⟩=>I.base.there b o g λhb=>by rw[hex] at hb;cases hb
theorem Takes.o(h:Takes X cls sd):aHH X (Ent X) cls sd:=λpins σ F H s a T I S x hp=>
 h pins σ F H s a T I S ⟨x.free,by
  cases g:X.s₀.heap.get? a with
  |none=>rfl
  |some o=>exact(x.new ⟨o,g⟩).elim,x.freeT,by
  cases g:X.s₀.heap.get? T with
  |none=>rfl
  |some o=>exact(x.newT ⟨o,g⟩).elim,x.obj⟩ hp
theorem vE{C:List D->Prop}{dvs:List V}{dws:List BD}{dds:List D}(G:eW X.prog X.w X.K X.mg X.base x k n C cls dvs dws)(hh:aLO X Old)(hr:Room k X.A)(hg:Gl X x)(ha:PAd X sd (e::es) (ds.map R.val))(hdv:∀H,RepL X.K H dds dvs)(hc:C (ds++dds))(hn:ds.length+dds.length=n)(ht:aHH X Old cls sd)
  (hdb:(x==("__debug__":Str))=false:=by decide) (he:AB (e::es) X.env=(false,eval e X.env)::AB es X.env:=by rfl) (hpl:(Aa pos<|AB es X.env).any (·.1)=false:=by rfl):
  PEx X sd (.Call (.Name x p) (e::es) [] pos):=⟨fun σ F H S pins s I=>by
 obtain⟨f,fd,ps,hm,hk,bd,hd,G⟩:=G.ex;refine AR<|kN I hg hm ?_ hdb;refine eE (h₀:=X.base) I.ok.mod.kin hk (thn (ha σ F H S pos pins s I) λus s1 ⟨vs,H1,I1,r,F1,S1,s1',q⟩=>⟨I1.kIn, ?_⟩) he hpl;have rl:RepL X.K H1 (ds++dds) (vs++dvs):=(q.vals.mono S1.sub).app<|hdv H1;refine tQ (Q:=λ_ _=>False) (Ex:=λ_ _ H'=>Same H1 H'/\Smp H') G hr bd hd I1 r ⟨by rw[rl.len,aN];exact hn,S1.smp,ds++dds,rl,hc,λa H' q1 q2=>⟨q1,q2⟩⟩ λe s' hcx=> ?_
 obtain⟨a,T,H',rfl,os,bare,un,hok,x,sH,smH⟩:=hcx;have I2:Inv X pins σ H' s':=I1.call' os un hok bare (λb z=>absurd z<|by simp)
 have nO:∀b,s1.heap.get? b=none->¬ Old b:=λb q z=>by obtain⟨o,g⟩:=hh pins σ H1 s1 I1 b z;rw[q] at g;cases g
 have nw:∀b,s1.heap.get? b=none->∀p∈X.pn++pins,p.1≠b:=λb q p hp z=>by have:=(I1.pin p hp).1;rw[z,q] at this;cases this
 exact ht pins σ F1 H' s' a T I2 ⟨S1.base,S1.sub.trans sH,smH,S1.slots.mono (Same.refl _) λl hl=>⟨(S1.slots.owns hl).1,λob e=>sH _ _ e⟩,S1.nd⟩ ⟨x.free,nO a x.new,x.freeT,nO T x.newT,x.obj⟩ λp hp=>⟨nw a x.new p hp,nw T x.newT p hp⟩⟩
theorem aFU(h:PEx X sd e)(hs:swapsWithSole [tg] e pos.line X.env=pure false:=by rfl)(hw:swappedStores [tg] e X.env=pure none:=by rfl)(h1:(BA [tg] X.env).map (·.2)=[assign tg X.env]:=by rfl):PSd1 X sd (.Assign [tg] e pos) E:=.mk λσ F H S=>(aMk eR aOo hs hw h1).to<|(h.run σ F H S).imp λ_ _ z=>z.elim
variable {ix:Expr}{l:BF}{ls:List BF}{dss:List (List D)}{m:List Bool}
theorem aAQ{body:List BJ}{h₀:ExceptHandler}{hs:List ExceptHandler}(hb:PSd X sd body E)(hxe:X.xe=(λ_ _=>False):=by rfl):PSd1 X sd (.Try body (h₀::hs) [] [] pos) E:=.mk λσ F H S pins s I=>by
 have h:=hb σ F H S pins s I;rw[hxe] at h;refine wpAny_Try_except<|AX h (λf s1 q=> ?_) λ_ _ z=>z.elim;cases f with
 |next=>obtain⟨σ',H',I',q⟩:=q;exact pss_nil pins s1 σ' H' (lft X F E) I' q
 |brk=>exact q
 |cont=>exact q
 |ret u=>exact q
theorem aJB{i:Nat}(ha:PEd X sd a (.val<|.tup ds))(hb:PEd X sd b (.val<|.int (i:Int)))(hc:PEd X sd c (.val<|.int (j:Int))):PEd X sd (.Subscript a (.Slice (some b) (some c) none p2) pos) (.val<|.tup ((ds.drop i).take<|j-i)):=by
 have e:DL.cutD ds (some (i:Int)) (some (j:Int))=(ds.drop i).take (j-i):=by
  unfold DL.cutD;rw[HT.sIx_nat,HT.sIx_nat]
  by_cases q:i<=ds.length
  ·rw[xO q,List.take_eq_take_iff];simp;omega
  ·rw[jP (show ds.length<=min i ds.length by omega),jP<|by omega];simp
 by_cases w:HT.sIx ds.length 0 (some (i:Int))=0/\HT.sIx ds.length ds.length (some (j:Int))=ds.length
 ·refine PEd.cast (zI (ol:=some (i:Int)) (oh:=some (j:Int)) ha hb hc w) ?_;rw[<-e];unfold DL.cutD;rw[w.1,w.2];simp
 ·exact PEd.cast (vS (ol:=some (i:Int)) (oh:=some (j:Int)) ha hb hc w) (by rw[e])
def gC(L:List SK)(row:List Nat):Prop:=∀t∈row,t<L.length
def qV:List D->R->Prop:=λds r=>∃ (row:List Nat) (i m:Nat),ds=[.tup<|bT row,.int (i:Int),.int (m:Int)]/\r=.val (.tup (bT<|(row.drop i).take m))
theorem aLT{G K:Prop}(h:K->G)(k:K):G:=h k
section
variable {prog:AE}{w:AL}{κ:Type}[DecidableEq κ](knd:KeyKind prog w κ)
variable {knd}
variable {A:BG}{E:BD->BE->Prop}{s:BE}
end
structure HK(P:AE)(w:AL)(κ:Type)[DecidableEq κ] where
 kind:HeapKind P w κ
 rel:Hp->κ->BF->Prop
 mono:∀ {F F':Hp}{k:κ}{a:BF},Same F F'->rel F k a->rel F' k a
 ok:∀ {H:Hp}{h:BH}{k:κ}{a:BF},HOk P w H h->rel H k a->kind.is h k a
 room:∀ {A:BG},A.units+2<AS->kind.room A.in1
 dat:κ->D
 key:∀ {K:aA}{F:Hp}{k:κ}{v:V},Rep K F (dat k) v->∃a,v=.ref a/\rel F k a
 back:∀ {K:aA}{F:Hp}{k:κ}{a:BF},rel F k a->Rep K F (dat k) (.ref a)
theorem vF{K:aA}{F:Hp}:∀k:List Key,RepL K F (k.map kD) (k.map kV)
 |[]=>.nil
 |a::k=>by refine .cons ?_ (vF k);cases a<;>simp only[kD,kV,Rep]
noncomputable def tD(k:List Key):D:=.tup<|k.map kD
noncomputable def hkT(P:AE)(w:AL):HK P w (List Key) where
 kind:=Af<|eA P w
 rel:=λF k a=>F a=some (.tup<|k.map kV)
 mono:=λs h=>s _ _ h
 ok:=λok h=>lU ok h
 room:=λhu=>Ad<|by omega
 dat:=tD
 key:=λr=>by simp only[tD,Rep] at r;obtain⟨a,ys,rfl,ha,rl⟩:=r;rw[nK rl] at ha;exact⟨a,rfl,ha⟩
 back:=λ{K F k a} h=>by simp only[tD,Rep];exact⟨a,_,rfl,h,vF k⟩
section
variable {P:AE}{w:AL}{κ:Type}[DecidableEq κ](hk:HK P w κ)
abbrev KG(F:Hp):List (κ×V)->List (κ×BF×BD)->Prop:=Paired λp q=>p.1=q.1/\hk.rel F p.1 q.2.1/\RelV p.2 q.2.2
def TG(K:aA)(F:Hp)(l:BF)(o:BI)(ks:List κ)(ds:List D):Prop:=
 ks.length=ds.length/\ks.length<=AM/\(l==AZ)=false/\ks.Nodup/\∃ (vs:List V) (xs:List (κ×BF×BD)) (es:Array DictEntry) (ep:Nat),RepL K F ds vs/\KG hk F (ks.zip vs) xs/\o.ExactDict/\o.data=.dict es ep/\es.toList=xs.map (entryOfKey hk.kind)/\(xs.map (·.1)).Nodup
variable {hk}{K:aA}{F F' H:Hp}{l:BF}{o:BI}{ks:List κ}{ds:List D}
theorem KG.mono{kvs:List (κ×V)}{xs:List (κ×BF×BD)}(s:Same F F')(r:KG hk F kvs xs):KG hk F' kvs xs:=Paired.mapP r λ_ _ z=>⟨z.1,hk.mono s z.2.1,z.2.2⟩
theorem TG.mono(s:Same F F')(t:TG hk K F l o ks ds):TG hk K F' l o ks ds:=by obtain⟨h1,h2,h3,h4,vs,xs,es,ep,r,g,q⟩:=t;exact⟨h1,h2,h3,h4,vs,xs,es,ep,r.mono s,g.mono s,q⟩
theorem KG.all{h:BH}(ok:HOk P w H h){l:List (κ×V)}{m:List (κ×BF×BD)}(q:KG hk H l m):∀x∈m,hk.kind.is h x.1 x.2.1:=by
 induction q with
 |nil=>intro x hx;exact nomatch hx
 |@cons p q ps qs hq t ih=>
  intro x hx
  rcases bA.mp hx with e|hx
  ·subst e;exact hk.ok ok (by rw[<-hq.1];exact hq.2.1)
  ·exact ih x hx
theorem KG.val{kvs:List (κ×V)}{xs:List (κ×BF×BD)}(r:KG hk F kvs xs)(k:κ):RelO (iO kvs k) ((atKey xs k).map (·.2)):=by
 induction r with
 |nil=>exact True.intro
 |@cons p q ps qs h t ih=>
  obtain⟨h1,_,h2⟩:=h
  by_cases e:p.1=k
  ·have e':q.1=k:=h1.symm.trans e;have b:atKey (q::qs) k=some q.2:=by simp[atKey,fW,e']
   rw[jG e,b];exact h2
  ·have e':¬ q.1=k:=λz=>e (h1.trans z)
   have b:atKey (q::qs) k=atKey qs k:=by simp[atKey,fW,e']
   rw[gH e,b];exact ih
theorem KG.new{kvs:List (κ×V)}{xs:List (κ×BF×BD)}(r:KG hk F kvs xs){k:κ}(hn:iO kvs k=none){b:BF}{y:V}{u:BD}(hb:hk.rel F k b)(ry:RelV y u):KG hk F (kvs++[(k,y)]) (storedH xs k b u):=by
 have e:atKey xs k=none:=by
  have:=r.val k;rw[hn] at this;cases h:atKey xs k with
  |none=>rfl
  |some z=>rw[h] at this;cases this
 rw[storedH_new e];exact Paired.snoc r ⟨rfl,hb,ry⟩
theorem rJ{k:κ}:∀ {ks:List κ}{xs:List V},k∉ks->iO (ks.zip xs) k=none
 |[],_,_=>rfl
 |_::_,[],_=>rfl
 |j::js,x::xs,h=>by rw[cW,gH (p:=(j,x)) (k:=k) (λe=>h<|(show j=k from e)▸aG)];exact rJ λz=>h<|aE _ z
theorem aDO:∀ {ks:List κ}{xs:List V}{n:Nat}{k:κ}{x:V},ks.Nodup->ks[n]? =some k->xs[n]? =some x->iO (ks.zip xs) k=some x
 |[],_,n,_,_,_,h,_=>by simp at h
 |_::_,[],n,_,_,_,_,h=>by simp at h
 |j::js,y::ys,0,k,x,nd,h1,h2=>by
  have e1:j=k:=by simpa using h1
  have e2:y=x:=by simpa using h2
  rw[cW,jG e1,e2]
 |j::js,y::ys,n+1,k,x,nd,h1,h2=>by
  obtain⟨nj,nd⟩:=bS.mp nd;have h1:js[n]? =some k:=by simpa using h1
  have h2:ys[n]? =some x:=by simpa using h2
  rw[cW,gH (p:=(j,y)) (k:=k) (λe=>nj<|(show j=k from e)▸aY h1)];exact aDO nd h1 h2
theorem aEx{k:κ}{ks:List κ}{xs:List V}(nd:ks.Nodup)(hl:ks.length=xs.length)(h:k∈ks):(iO (ks.zip xs) k).isSome=true:=by obtain⟨n,hn,rfl⟩:=eU h;rw[aDO (n:=n) (x:=xs[n]'(by omega)) nd (by simp[hn])<|by simp[show n<xs.length by omega]];rfl
theorem TG.dict{h:BH}(ok:HOk P w H h)(s:Same F H)(hl:H l=some (exO l o))(t:TG hk K F l o ks ds):∃ (vs:List V) (xs:List (κ×BF×BD)),RepL K F ds vs/\KG hk F (ks.zip vs) xs/\h.DictOfH hk.kind l xs/\xs.length<=AM/\(∀k,(atKey xs k).isSome=decide (k∈ks)):=by
 obtain⟨h1,h2,h3,h4,vs,xs,es,ep,r,g,q1,q2,q3,q4⟩:=t;have ho:h.get? l=some o:=(ok l _ hl).1;refine⟨vs,xs,r,g,⟨o,es,ep,ho,q1,q2,q3,KG.all ok<|g.mono s,q4⟩, ?_,λk=> ?_⟩
 ·rw[<-Paired.length g,jD,r.len,<-h1,oI];exact h2
 ·have:=(g.val k).isSome_eq;rw[rD] at this;rw[<-this]
  by_cases e:k∈ks
  ·rw[decide_eq_true e];exact aEx h4 (by rw[r.len,h1]) e
  ·rw[decide_eq_false e,rJ e];rfl
end
section
variable {P:AE}{w:AL}{κ:Type}[DecidableEq κ]
def GG(hk:HK P w κ)(K:aA)(l:BF)(ks:List κ)(ds:List D):V->Hp->Hp->Prop:=λv F H=>v=.ref l/\∃o,H l=some (exO l o)/\TG hk K F l o ks ds
noncomputable def oG(hk:HK P w κ)(K:aA)(l:BF)(ks:List κ)(ds:List D):Slot:=.ox [l]<|GG hk K l ks ds
variable {hk:HK P w κ}{K:aA}{H₀ F H:Hp}{σ:St}{sd:List Slot}{i:Nat}{l:BF}{ks:List κ}{ds:List D}{o:BI}
theorem TG.cell(t:TG hk K F l o ks ds):∀v,o.data≠ .cell v:=λv z=>by obtain⟨_,_,_,_,_,_,_,_,_,_,_,q,_⟩:=t;rw[q] at z;cases z
theorem zK(S:StF K H₀ F H σ sd)(hs:sd[i]? =some (oG hk K l ks ds)):σ[i]? =some (some<|.ref l)/\F l=none/\∃o,H l=some (exO l o)/\TG hk K F l o ks ds:=by
 obtain⟨o,h1,v,h2,h3,h4⟩:=S.slots.get hs;obtain⟨e,ob,a,b⟩:=h4 F H (Same.refl _) λ_ _ _ q=>q
 subst e h2;exact⟨h1,(h3 l<|bX l).1,ob,a,b⟩
theorem aLX(hF:F l=none)(h1:H l=some (exO l o))(t:TG hk K F l o ks ds):dM K F H (oG hk K l ks ds) (some<|.ref l):=
 ⟨.ref l,rfl,fun a ha=>by
  rw[aH.mp ha]
  exact⟨hF,_,h1,o,rfl,t.cell⟩,λF' H' s k=>⟨rfl,o,k l (bX l) _ h1,t.mono s⟩⟩
end
section
variable {X:Cx}{sd:List Slot}{e a b c tg iter:Expr}{es:List Expr}{pos:Pos}{d:D}{ds:List D}{κ:Type}[DecidableEq κ]{hk:HK X.prog X.w κ}{ks:List κ}{k:κ}{E:hW}{l:BF}
theorem aHq(hk:HK X.prog X.w κ)(i:Nat){x:Str}{p p2:Pos}(hN:X.N.Nodup)(hi:X.N[i]? =some x)(hx:Loc X.env.scope x)(hE:∀l,E.nx (sd.set i<|oG hk X.K l [] []))(hs:AY (.Dict [] [] p2) (some<|.Name x p) pos.line X.env=pure false:=by rfl)
  (hf:X.fn x=true\/X.env.scope.names.lookup x=some .local:=by first|exact .inl rfl|exact .inr rfl|assumption):PSd1 X sd (.Assign [.Name x p] (.Dict [] [] p2) pos) E:=.mk λσ F H S=>
 (pN hN hi hx aBv hs hf).to λq hq hm=>by
  have fp:F q=none:=S.sub.free hq
  have no:q∉bU sd:=λhl=>by obtain⟨_,ob,h,_⟩:=S.slots.owns hl;rw[hq] at h;cases h
  have S1:StF X.K X.B₀ F (upd H q<|exO q aFO) σ sd:=by
   refine⟨S.base,λb u e=> ?_,mG S.smp q,S.slots.mono (Same.refl _) λl hl=> ?_,S.nd⟩
   ·rw[aR<|cC e fp];exact S.sub _ _ e
   ·obtain⟨n,ys,y,_⟩:=S.slots.owns hl;have hne:l≠q:=cC y hq;exact⟨n,λys e=>by rw[aR hne];exact e⟩
  refine⟨_,F,S1.setT i (aLX (hk:=hk) (K:=X.K) (ks:=[]) (ds:=[]) fp bJ ⟨rfl,cQ _,hm,cI,[],[], #[],0,.nil,.nil,⟨rfl,rfl,rfl⟩,rfl,rfl,cI⟩) (by simp) λa ha=> ?_,Same.refl _,hE q⟩;rw[aH.mp ha];exact no
theorem aGN(i:Nat){x:Str}{p p2:Pos}(hu:X.A.units+2<AS)(hs:sd[i]? =some (oG hk X.K l ks ds))(hx:PE X (.Name x p) (iI i))(h:PEd X sd e (.val d))(hb:PEd X sd b (.val<|hk.dat k))(hnk:k∉ks)(hl:ds.length<=10000)(hE:E.nx (sd.set i (oG hk X.K l (ks++[k])<|ds++[d])))
  (hsw:AY e (some<|.Subscript (.Name x p) b p2) pos.line X.env=pure false:=by rfl):PSd1 X sd (.Assign [.Subscript (.Name x p) b p2] e pos) E:=.mk λσ F H S pins s I=>by
 refine wpAny_Assign_Subscript (thn (h σ F H S pins s I) λr s1 ⟨v,H1,I1,rv,F1,S1,sF1,q1⟩=> ?_) hsw;obtain⟨h1,_⟩:=zK S1 hs;refine thn (hx pins s1 σ H1 (λv H2=>v=.ref l/\H2=H1) I1 ⟨.ref l,h1,rfl,rfl⟩) λu s2 ⟨y,H2,I2,ry,e1,e2⟩=> ?_
 subst e1 e2;obtain rfl:u=Value.ref l:=ry;refine thn (hb σ F1 H2 S1 pins s2 I2) λiv s3 ⟨y,H3,I3,ry,F3,S3,sF3,q3⟩=> ?_
 obtain⟨g1,g2,o,g3,t⟩:=zK S3 hs;obtain⟨ad,rfl,ha⟩:=hk.key q3;obtain rfl:iv=Value.ref ad:=ry;obtain⟨vs,xs,r1,kg,dd,hz,hin⟩:=t.dict I3.hok S3.sub g3;obtain⟨t1,t2,t3,t4,_⟩:=t;refine wpAny_setItem_heap (hsz:=hz) (hk.room hu) (hk.ok I3.hok<|hk.mono S3.sub ha) dd λh' dd' hsm=> ?_
 obtain⟨q,es',ep',hq,u2,u3,u4,_,u5⟩:=dd';have I4:=oQ (t':=s3.toks+hk.kind.draws k) I3 (ob:=exO l q) (by rw[g3];exact True.intro) hsm ⟨q,hq⟩<|nQ hq;have lz:ks.length=vs.length:=by rw[t1,r1.len]
 have kg':=kg.new (rJ hnk) ha rv;rw[<-rQ lz] at kg'
 have t':TG hk X.K F3 l q (ks++[k]) (ds++[d]):=⟨by rw [aN,aN,t1]; rfl,by
  rw[aN,t1];have:=eV hl;show ds.length+1<=AM
  omega,t3,bE.mpr ⟨t4,by simp,λa ha b hb e=>hnk (by rw[<-aH.mp hb,<-e];exact ha)⟩,vs++[v],_,es',ep',r1.app (.one (Rep.mono sF3 q1)),kg',u2,u3,u4,u5⟩
 refine⟨σ,_,I4,_,F3,S3.reT (z':=oG hk X.K l (ks++[k])<|ds++[d]) hs g1 (λb ob hb q=> ?_) (mG S3.smp l) (aLX g2 bJ t') (show[l].Nodup by simp) λa ha=>.inl ha,sF1.trans sF3,hE⟩;rw[aR (show b≠l from λz=>hb<|z▸bX l)];exact q
structure PDc(X:Cx)(sd:List Slot)(e:Expr){κ:Type}[DecidableEq κ](hk:HK X.prog X.w κ)(ks:List κ)(ds:List D):Prop where
 get:∀ (σ:St) (F H:Hp),StF X.K X.B₀ F H σ sd->wE X e σ H λv H1=>∃F1 l,StF X.K X.B₀ F1 H1 σ sd/\Same F F1/\v=.ref l/\∀F2 H2,StF X.K X.B₀ F2 H2 σ sd->Same F1 F2->∃o,H2 l=some (exO l o)/\TG hk X.K F2 l o ks ds
theorem aKQ(i:Nat){x:Str}{p:Pos}(hs:sd[i]? =some (oG hk X.K l ks ds))(hx:PE X (.Name x p) (iI i)):PDc X sd (.Name x p) hk ks ds:=⟨fun σ F H S=>hx.to (by
 obtain⟨h1,_⟩:=zK S hs
 exact⟨.ref l,h1,F,l,S,Same.refl _,rfl,λF2 H2 S2 _=>(zK S2 hs).2.2⟩)⟩
noncomputable def rIn(hk:HK X.prog X.w κ)(f:Bool->Bool):R2:=λx y H Q=>∃ (F:Hp) (ad l:BF) (o:BI) (k:κ) (ks:List κ) (ds:List D),x=.ref ad/\y=.ref l/\Same F H/\hk.rel F k ad/\H l=some (exO l o)/\TG hk X.K F l o ks ds/\X.A.units+2<AS/\Q (.bl<|f (decide<|k∈ks)) H
theorem aJe:OpR X (AW .NotIn) (rIn hk (!·)):=by intro pins s σ H x y v u Q I rx ry h;obtain⟨F,ad,l,o,k,ks,ds,rfl,rfl,sF,ha,hl,t,hu,q⟩:=h;obtain rfl:v=Value.ref ad:=rx;obtain rfl:u=Value.ref l:=ry;obtain⟨vs,xs,_,_,dd,_,hin⟩:=t.dict I.hok sF hl;refine wpAny_notIn_heap (hk.room hu) (hk.ok I.hok<|hk.mono sF ha) t.2.2.1 dd ⟨.bl<|!decide (k∈ks),H,I.tok _, ?_,q⟩;show Value.bool _=Value.bool _;rw[hin]
theorem aFV(hu:X.A.units+2<AS)(ha:PEd X sd a (.val<|hk.dat k))(hb:PDc X sd b hk ks ds)(hm:AU .NotIn b=false:=by with_unfolding_all rfl):PTd X sd (.Compare a [.NotIn] [b] pos) (!decide (k∈ks)):=.mk λσ F H S=>
 (aAg (aJe (hk:=hk)) eR eR hm).to ((ha σ F H S).imp fun v H1 ⟨F1,S1,s1,q1⟩=>(hb.get σ F1 H1 S1).imp fun u H2 ⟨F2,l,S2,s2,eu,g⟩=>by
  obtain⟨ad,rfl,hr⟩:=hk.key q1;obtain⟨o,g1,g2⟩:=g F2 H2 S2<|Same.refl _
  exact⟨F2,ad,l,o,k,ks,ds,rfl,eu,S2.sub,hk.mono s2 hr,g1,g2,hu,_,rfl,rfl,F2,S2,s1.trans s2⟩)
end
variable {prog:AE}{E:BD->BE->Prop}{d it:BF}{od:BI}{es:Array DictEntry}{ep i:Nat}
theorem qF(g:s.heap.get? d=some od)(c:od.ExactDict):s.TypeIs (.ref d) "dict":=⟨od,g,c.1⟩
theorem aGi{Q:BD->BE->Prop}(sm:(d==AZ)=false)(g:s.heap.get? d=some od)(c:od.ExactDict)(e:od.data=.dict es ep)
  (q:Q (.ref s.heap.objs.size) {s with heap:=s.heap.push {cls:=.type "dict_keyiterator",data:=.fields #[.ref d,.int 0 0,.int es.size 0,.int ep 0]}}):AK (AG prog w) A (pyIter<|.ref d) Q E s:=by
 have ty:=qF g c;refine wpAny_pyIter_slot ty F.slot_dict_iter (As F.slot_dict_iter ty F.entry_dict_iter (AA ?_)<|F.args_dict_iter_1 _);unfold Builtin.Dict.dictSlotNone;refine AA<|Aw ty (AC (a:=Value.ref d)<|AA (m:=Builtin.Dict.showsAll d) ?_);unfold Builtin.Dict.showsAll;rw[sm,if_neg bH];exact AC<|AA (An g e<|AA (wpAny_dictEpoch g e<|AA (AV<|AC ⟨_,rfl,"dict_keyiterator",_,⟨_,bN _ rfl,rfl⟩,F.slot_dict_keyiterator_next.lookup,q⟩)))
theorem aEV{Q:Option BD->BE->Prop}(ki:s.heap.IsKeyIter it d i es.size ep)(g:s.heap.get? d=some od)(e:od.data=.dict es ep)(hi:i<es.size)
  (q:∀h',h'.IsKeyIter it d (i+1) es.size ep->Heap.SameBut it s.heap h'->Q (some es[i].key) {s with heap:=h'}):AK (AG prog w) A (pyNext<|.ref it) Q E s:=by
 have ty:=ki.typeIs;obtain⟨o,g1,c1,f1⟩:=ki;unfold pyNext;refine AA (wpAny_attempt<|Am (name:=Str.ofString "__next__") ty F.slot_dict_keyiterator_next (As F.slot_dict_keyiterator_next ty F.entry_dict_keyiterator_next (AA<|AC (AA<|AA ?_))<|F.args_dict_keyiterator_next_1 _));refine AA (Al ty<|AC (AA<|wpAny_fieldsOf g1 f1 ?_));rw[if_neg<|by decide];show AK _ _ (ite ((Value.ref d==Value.none)=true) _ _) _ _ _;rw[if_neg (c:=(Value.ref d==Value.none)=true) λz=>by cases z];refine AA<|AC (AA<|An g e ?_);rw[if_neg<|by simp];refine AA<|AC (AA<|wpAny_dictEpoch g e ?_);rw[if_neg<|by simp];refine AC ?_;have ix:(if(i:Int)<0 then none else es[(i:Int).toNat]?)=some es[i]:=by rw[if_neg<|by omega,dJ,Array.getElem?_eq_getElem hi]
 simp only[ix]
 have up:(s.heap.update it (Obj.mapFields (·.setIfInBounds 1 (rawInt<|(i:Int)+1)))).IsKeyIter it d (i+1) es.size ep:=
  ⟨_,fQ _ g1 (Obj.isFreed_of_fields<|Obj.data_mapFields f1 _),(Obj.cls_mapFields ..).trans c1,by rw[Obj.data_mapFields f1];simp[rawInt]⟩
 refine AA<|AA (Al ty<|AC (AA<|wpAny_isOneOf_keyiter ty (AA<|wpAny_setField g1 f1 (show(0:Nat)+1<4 by decide) (AA<|Ak ?_))));refine AA<|wpAny_isOneOf_keyiter up.typeIs ?_;exact AC<|AC ⟨_,rfl,AC (q _ up<|Heap.SameBut.update ..)⟩
theorem aGp{Q:Option BD->BE->Prop}{hp:BH}(hh:A.handled=none)(sb:Heap.ExtBut it s.heap hp)(q:∀h',Heap.ExtBut it s.heap h'->Q none {s with heap:=h'}):
  AK (AG prog w) A.in1 (newExc (.type "StopIteration") []>>=fun x=>(raiseNew x:Sem Fin)) (fun fin s'=>∃v,fin=Fin.done (Flow.ret v)∧AK (AG prog w) A (pure (some v)) Q E s') (fun e s'=>AK (AG prog w) A (do
   let b <-isInstance e (Value.type "StopIteration")
   if b=true then pure none else throw e) Q E s') {s with heap:=hp}:=by
 refine AA ?_;simp only[newExc,newTuple];refine AA (AV (AA (m:=firstArgMember _ _)<|wpAny_of_eq (a:=Value.none) (by first|rfl|(simp only[firstArgMember];rfl)) (AV ?_<|by size_fits))<|by size_fits);simp only[raiseNew];refine AA<|wpAny_handled ?_;rw[show A.in1.handled=none from hh];refine AA (AC<|wpAny_throw ?_);refine AA<|wpAny_isInstance (T:="StopIteration") (b:=true) ⟨_,bN _ rfl,rfl⟩ isSubtype_stop ?_;exact AC (q _<|(sb.push _).push _)
theorem aHh{Q:Option BD->BE->Prop}(hh:A.handled=none)(ki:s.heap.IsKeyIter it d i es.size ep)(g:s.heap.get? d=some od)(e:od.data=.dict es ep)(hi:es.size<=i)
  (q:∀h',Heap.ExtBut it s.heap h'->Q none {s with heap:=h'}):AK (AG prog w) A (pyNext<|.ref it) Q E s:=by
 have ty:=ki.typeIs;obtain⟨o,g1,c1,f1⟩:=ki;unfold pyNext;refine AA (wpAny_attempt<|Am (name:=Str.ofString "__next__") ty F.slot_dict_keyiterator_next (As F.slot_dict_keyiterator_next ty F.entry_dict_keyiterator_next (AA<|AC (AA<|AA ?_))<|F.args_dict_keyiterator_next_1 _));refine AA (Al ty<|AC (AA<|wpAny_fieldsOf g1 f1 ?_));rw[if_neg<|by decide];show AK _ _ (ite ((Value.ref d==Value.none)=true) _ _) _ _ _;rw[if_neg (c:=(Value.ref d==Value.none)=true) λz=>by cases z];refine AA<|AC (AA<|An g e ?_);rw[if_neg<|by simp];refine AA<|AC (AA<|wpAny_dictEpoch g e ?_);rw[if_neg<|by simp];refine AC ?_;have ix:(if(i:Int)<0 then none else es[(i:Int).toNat]?)=none:=by rw[if_neg<|by omega,dJ,aBJ hi]
 simp only[ix];refine AA<|AA (Al ty<|AC (AA<|wpAny_setField g1 f1 (show(0:Nat)<4 by decide) ?_));exact aGp hh (Heap.SameBut.update ..).extBut q
theorem aCk(sm:(d==AZ)=false):MeetsIn prog w (Builtin.«dict.__len__» ⟨[.ref d],[]⟩) (λ_ R s=>∃ (od:BI) (es:Array DictEntry) (ep:Nat),s.heap.get? d=some od/\od.ExactDict/\od.data=.dict es ep/\R (.ok (.ret<|.int es.size s.toks)) {s with toks:=s.toks+1}):=
 .of_wp λA R s ⟨od,es,ep,g,c,e,q⟩=>by refine AA (m:=Builtin.Dict.dictSlotNone "__len__" ⟨[.ref d],[]⟩) ?_;unfold Builtin.Dict.dictSlotNone;refine AA<|Aw (qF g c) (AC (a:=Value.ref d)<|AA (AC<|AA (m:=dictSize d) ?_));unfold dictSize;exact AA (An g e<|AC (AA<|wpAny_pendingCount_other sm (wpAny_ret_mkInt<|by rw[show((es.size:Nat):Int)+((0:Nat):Int)=(es.size:Int) from Int.add_zero _];exact q)))
theorem aEJ{Q:BD->BE->Prop}(sm:(d==AZ)=false)(g:s.heap.get? d=some od)(c:od.ExactDict)(e:od.data=.dict es ep)(fit:es.size<=AM)(q:∀t t2,Q (.int es.size t) {s with toks:=t2}):AK (AG prog w) A (call (.builtin "len") [.ref d]) Q E s:=by
 have lim:AM=16777216:=Aq;have ty:=qF g c;refine Calls.call_function_entry kind_len plain_len entry_len (args_len1 _) ?_;refine AA (m:=oneArg "len" _) (AC<|AA (m:=callSpecial? (.ref d)<|Str.ofString "__len__") (Am (name:=Str.ofString "__len__") ty F.slot_dict_len<|call_meetsIn F.slot_dict_len ty F.entry_dict_len (F.args_dict_len_1 _) (aCk sm) ⟨od,es,ep,g,c,e, ?_⟩));refine AA (Ak<|AC (AA<|wpAny_letGo ?_));refine wpAny_ite_split (λz=>by omega) λ_=>wpAny_ite_split (λz=>by omega) λ_=> ?_
 exact AA (wpAny_mkInt<|AC ⟨_,rfl,q _ _⟩)
section
variable {X:Cx}{sd:List Slot}{e:Expr}{pos:Pos}{d:D}{ds:List D}{κ:Type}[DecidableEq κ]{hk:HK X.prog X.w κ}{ks:List κ}
theorem aFb:mL X (.builtin "len") (λxs H Q=>∃ (l:BF) (o:BI) (es:Array DictEntry) (ep:Nat),xs=[.ref l]/\H l=some (exO l o)/\o.ExactDict/\o.data=.dict es ep/\(l==AZ)=false/\es.size<=AM/\Q (.int es.size) H):=by intro pins s σ H xs us Q I r h;obtain⟨l,o,es,ep,rfl,hl,c,e,sm,fit,q⟩:=h;obtain⟨u,rfl,rx⟩:=pG r;cases(show u=Value.ref l from rx);exact aEJ sm (I.hok l _ hl).1 c e fit λt t2=>⟨.int es.size,H,I.tok _,⟨_,rfl⟩,q⟩
end
variable {H₀ F' H':Hp}{p:Int}{L:Int->List D}{kvs:List (Key×V)}
theorem InD.erase:∀ {as:List BF}{dss:List (List D)} (n:Nat),InD K F H as dss->InD K F H (as.eraseIdx n) (dss.eraseIdx n)
 |[],[],n,h=>by simp;exact h
 |[],_::_,_,h=>h.elim
 |_::_,[],_,h=>h.elim
 |a::as,ds::dss,0,h=>h.2
 |a::as,ds::dss,n+1,h=>⟨h.1,InD.erase n h.2⟩
theorem yH{α β:Type}(f:α->β):∀ (l:List α) (n:Nat),(l.map f).eraseIdx n=(l.eraseIdx n).map f
 |[],_=>by simp
 |_::_,0=>rfl
 |a::l,n+1=>by show f a::(l.map f).eraseIdx n=f a::(l.eraseIdx n).map f;rw[yH f l n]
namespace S45
variable {T:Type}[DecidableEq T](n:Nat)(pr:Nat->Int)(beh:Nat->T->T)(t0:T)
noncomputable abbrev Ent(T:Type):=Int×List Nat×T
noncomputable def tabQ(row:List Nat):T:=row.foldl (λt k=>beh k t) t0
noncomputable def prQ(row:List Nat):Int:=(row.map pr).sum
theorem tab_snoc(row:List Nat)(k:Nat):tabQ beh t0 (row++[k])=beh k (tabQ beh t0 row):=by unfold tabQ;rw[fG];rfl
theorem pr_snoc(row:List Nat)(k:Nat):prQ pr (row++[k])=prQ pr row+pr k:=by unfold prQ;rw[bK,aLl];simp
variable {n pr beh t0}
variable (n pr beh)
variable {n pr beh}
end S45
end DL
namespace DL
open PySem PySem.Spec PyProof.Rows L2
variable {p:Int×Int}{L:List SK}
noncomputable def jA(p:Int×Int)(q:SQ):List Nat:=(bV p).map λws=>wO p<|onQ p q ws
noncomputable def iN(other one:List Nat):List Nat:=one.map λi=>other.getD i 0
noncomputable def jC(p:Int×Int)(nb:List Nat):List (List Int):=nb.map λi=>(bV p).getD i []
noncomputable def xL(p:Int×Int)(L:List SK)(k:Nat)(t:List (List Int)):List (List Int):=t.map<|onQ p (L.getD k AQ).1
noncomputable def prK(L:List SK)(k:Nat):Int:=(L.getD k AQ).2
noncomputable def mvD(p:Int×Int)(s:SK):D:=.tup [.int s.2,.tup (bT<|jA p s.1)]
def NOk(p:Int×Int)(nb:List Nat):Prop:=nb.length=(bV p).length/\∀i∈nb,i<(bV p).length
theorem aKN(p:Int×Int)(q:SQ):(jA p q).length=(bV p).length:=by unfold jA;rw[aC]
theorem aIn(q:SQ){i:Nat}(hi:i<(bV p).length):(jA p q).getD i 0=wO p (onQ p q<|(bV p).getD i []):=by unfold jA;simp[cK,hi]
theorem aLP(hp:p∈bW){i:Nat}(hi:i<(bV p).length):Fil p ((bV p).getD i []):=lJ hp<|getD_mem hi
theorem aNl(hp:p∈bW){q:SQ}(O:sQ p q){i:Nat}(hi:i<(bV p).length):(jA p q).getD i 0<(bV p).length:=by rw[aIn q hi];exact(aDj hp (tP O<|aLP hp hi)).2.1
theorem aKz(hp:p∈bW){q:SQ}(O:sQ p q){nb:List Nat}(h:NOk p nb):NOk p (iN (jA p q) nb):=by refine⟨by unfold iN;rw[aC];exact h.1,λi hi=> ?_⟩;obtain⟨j,hj,rfl⟩:=aQ.mp hi;exact aNl hp O<|h.2 j hj
theorem aGC(hp:p∈bW){q:SQ}(O:sQ p q){nb:List Nat}(h:NOk p nb):jC p (iN (jA p q) nb)=(jC p nb).map (onQ p q):=by
 unfold jC iN;rw[aV,aV];refine cF λi hi=> ?_
 show(bV p).getD ((jA p q).getD i 0) []=onQ p q ((bV p).getD i []);rw[aIn q<|h.2 i hi];exact(aDj hp<|tP O (aLP hp<|h.2 i hi)).2.2
theorem aGe(hp:p∈bW){a b:List Nat}(ha:NOk p a)(hb:NOk p b)(h:jC p a=jC p b):a=b:=by
 refine tX (ha.1.trans hb.1.symm) λi h1 h2=> ?_
 have e:(jC p a)[i]'(by unfold jC;rw[aC];exact h1)=(jC p b)[i]'(by unfold jC;rw[aC];exact h2):=by simp only[h]
 unfold jC at e;rw[eG,eG] at e;rw[<-aHY hp (ha.2 _<|iM h1),<-aHY hp (hb.2 _<|iM h2),e]
noncomputable def st0(p:Int×Int):List Nat:=bR (bV p).length
theorem aMB(p:Int×Int):NOk p (st0 p):=⟨by unfold st0;rw[fH],λi hi=>cU.mp hi⟩
theorem aDN(p:Int×Int):jC p (st0 p)=bV p:=by
 unfold jC st0;refine tX (by simp) λi h1 h2=> ?_
 rw[eG,aHu];simp[cK,h2]
noncomputable def nrQ(p:Int×Int)(L:List SK)(row:List Nat):List Nat:=row.foldl (λnb k=>iN (jA p (L.getD k AQ).1) nb)<|st0 p
theorem zV(row:List Nat)(k:Nat):nrQ p L (row++[k])=iN (jA p (L.getD k AQ).1) (nrQ p L row):=by unfold nrQ;rw[fG];rfl
theorem aCF(hp:p∈bW)(S:∀s∈L,sQ p s.1):∀ {row:List Nat},gC L row->NOk p (nrQ p L row)/\jC p (nrQ p L row)=S45.tabQ (xL p L) (bV p) row:=λ{row}=>by
 have g:∀ (row:List Nat) (nb:List Nat) (t:List (List Int)),NOk p nb->jC p nb=t->gC L row->NOk p (row.foldl (λnb k=>iN (jA p (L.getD k AQ).1) nb) nb)/\jC p (row.foldl (λnb k=>iN (jA p (L.getD k AQ).1) nb) nb)=row.foldl (λt k=>xL p L k t) t:=λrow=>by
  induction row with
  |nil=>exact λnb t h1 h2 _=>⟨h1,h2⟩
  |cons k row ih=>
   intro nb t h1 h2 h3;have O:sQ p (L.getD k AQ).1:=S _ (DL.getD_mem<|h3 k aG);refine ih _ _ (aKz hp O h1) ?_ λj hj=>h3 j<|aE _ hj
   rw[aGC hp O h1,h2];rfl
 exact λh=>g row (st0 p) (bV p) (aMB p) (aDN p) h
open Classical in
noncomputable def uM(L:List SK)(d:D):SK:=if h:∃s,s∈L/\skD s=d then h.choose else AQ
theorem wR(nd:(L.map λs=>sqD s.1).Nodup){s:SK}(h:s∈L):uM L (skD s)=s:=by
 have ex:∃z,z∈L/\skD z=skD s:=⟨s,h,rfl⟩;unfold uM;rw[dif_pos ex];obtain⟨h1,h2⟩:=ex.choose_spec;generalize ex.choose=z at h1 h2;obtain⟨i,hi,ez⟩:=eU h1;obtain⟨j,hj,es⟩:=eU h
 have e:sqD z.1=sqD s.1:=by
  have h2:D.tup [sqD z.1,.int z.2]=D.tup [sqD s.1,.int s.2]:=h2;injection h2 with h2
  exact(aCB.inj h2).1
 have:i=j:=(jW (i:=i) (j:=j) (h₀:=by rw[aC];exact hi) (h₁:=by rw[aC];exact hj) nd).mp (by rw[eG,eG,ez,es,e]);subst this;exact ez.symm.trans es
def aPp:List D->R->Prop:=λds r=>∃p q,p∈bW/\sQ p q/\ds=[cJ p,sqD q]/\r=.val (.tup (bT<|jA p q))
def aIe:List D->R->Prop:=λds r=>∃p L,p∈bW/\StkOk p L/\(L.map λs=>sqD s.1).Nodup/\ds=[cJ p,.lst<|L.map skD]/\r=.own (L.map<|mvD p)
def aLN:List D->R->Prop:=λds r=>∃one other:List Nat,one.length<=100/\(∀i∈one,i<other.length)/\ds=[.tup<|bT one,.tup<|bT other]/\r=.val (.tup (bT<|iN other one))
def aHX:List D->R->Prop:=λds r=>∃ (B:List (List Int)) (nb:List Nat),nb.length<=100/\(∀i∈nb,i<B.length)/\ds=[.lst<|B.map bP,.tup<|bT nb]/\r=.val (.tup<|(nb.map λi=>B.getD i []).map bP)
section
variable {X:Cx}{sd:List Slot}{a b:Expr}{pos:Pos}{ds:List D}{κ:Type}[DecidableEq κ]{hk:HK X.prog X.w κ}{ks:List κ}{k:κ}{kk:Bool}
theorem aGU(h:kk=true↔k∈ks):decide (k∈ks)=kk:=by
 cases kk with
 |true=>exact decide_eq_true<|h.mp rfl
 |false=>exact decide_eq_false λz=>by cases h.mpr z
theorem aFZ(h:kk=true↔k∈ks)(hu:X.A.units+2<AS)(ha:PEd X sd a (.val<|hk.dat k))(hb:PDc X sd b hk ks ds)(hm:AU .NotIn b=false:=by with_unfolding_all rfl):PTd X sd (.Compare a [.NotIn] [b] pos) (!kk):=PTd.cast (aFV hu ha hb hm) (by rw[aGU h])
end
noncomputable abbrev Bk:=S45.Ent (List<|List Int)
noncomputable def enD(e:Bk):D:=.tup [.int e.1,.tup<|bT e.2.1,.tup<|e.2.2.map bP]
noncomputable def lY(nb:List Nat):List Key:=nb.map λ(i:Nat)=>(Sum.inl (i:Int):Key)
theorem aIq(nb:List Nat):tD (lY nb)=.tup (bT nb):=by unfold tD lY bT;rw[aV];rfl
theorem aAY:∀ {a b:List Nat},lY a=lY b->a=b
 |[],[],_=>rfl
 |[],_::_,h=>by cases h
 |_::_,[],h=>by cases h
 |x::a,y::b,h=>by
  have h:(Sum.inl (x:Int):Key)::lY a=(Sum.inl (y:Int):Key)::lY b:=h;injection h with h1 h2
  have:=Sum.inl.inj h1;rw[aAY h2];congr 1;omega
theorem aHF(L:List SK)(row:List Nat):sM (sL L row)=S45.prQ (prK L) row:=by
 unfold S45.prQ sL prK;generalize row.map (λt=>(L.getD t AQ).2)=xs
 have g:∀n:Nat,sM (xs.take n)=(xs.take n).sum:=λn=>by
  induction n with
  |zero=>rfl
  |succ n ih=>
   by_cases h:n<xs.length
   ·rw[yD 0 h,aFd,ih,aLl];simp
   ·have e:xs.take (n+1)=xs.take n:=by rw[eQ<|by omega,eQ<|by omega]
    rw[e,ih]
 have:=g xs.length;rw[gD] at this;exact this
variable {prog:AE}{w:AL}{A:BG}{E:BD->BE->Prop}{s:BE}{r:BF}{n:Nat}{t u v:Tok}
theorem zZ{Q:List BD->BE->Prop}(hh:A.handled=none)(ir:IsRange s.heap r 0 (n:Int) 1 t u v)(hn:n<=10000)
  (q:∀ (h':BH) (tk:Nat) (acc:Array BD),(∀b o,s.heap.get? b=some o->h'.get? b=some o)->ItemsOf (λi v=>∃t,v=.int (0+i*1) t) acc n->Q acc.toList {s with heap:=h',toks:=tk}):AK (AG prog w) A (collect<|.ref r) Q E s:=by
 have sz:Builtin.Range.rangeSize 0 (n:Int) 1=(n:Int):=by
  rw[rangeSize_one]
  split<;>omega
 have fin:∀ (h':BH) (tk:Nat) (acc:Array BD) (c':Nat),(∀b o,s.heap.get? b=some o→h'.get? b=some o)→h'.get? s.heap.objs.size=some {cls:= .type "list",dict:=none,data:= .seq acc c',slots:= #[]}→ItemsOf (fun i v=>∃t,v= .int (0+i * 1) t) acc n→AK (AG prog w) A (do
   let o <-load s.heap.objs.size
   match o.data with
   |.seq xs _=>pure xs.toList
   |_=>unsupported "internal:collect") Q E {s with heap:=h',toks:=tk}:=λh' tk acc c' k1 k2 k3=>AA (wpAny_load k2 (AC (q h' tk acc k1 k3)))
 have new:(s.heap.push {cls:=.type "list",data:=.seq ([]:List BD).toArray}).get? s.heap.objs.size=some {cls:=.type "list",data:=.seq #[]}:=bN _ rfl;have main:=wpAny_extend_range (prog:=prog) (w:=w) (A:=A) (s:={s with heap:=s.heap.push {cls:=.type "list",data:=.seq ([]:List BD).toArray}}) (R:=λ(x:Result) (st:BE)=>∃ (h':BH) (tk:Nat) (acc:Array BD) (c':Nat),x=.ok (.ret<|.ref s.heap.objs.size)/\st={s with heap:=h',toks:=tk}/\(∀b o,s.heap.get? b=some o->h'.get? b=some o)/\h'.get? s.heap.objs.size=some {cls:=.type "list",dict:=none,data:=.seq acc c',slots:= #[]}/\ItemsOf (λi v=>∃t,v=.int (0+i*1) t) acc n) hh (aF _ ir) (small_one (by omega) (by omega) (by omega)<|by omega) sz (by omega) s.heap.objs.size (.ref s.heap.objs.size) 0 new λh' tk acc c' k1 k2 k3=>⟨h',tk,acc,c',rfl,rfl,λb o g=>k1 b o (bQ<|aP g)<|aF _ g,k2,k3⟩
 unfold collect;refine AA (wpAny_runValue<|Av entry_proto_collect' ?_);rw[Around.under_plainId PySem.F.plain_proto_collect _];refine AA (m:=newList []) (AV<|AC ⟨plainId_quiet zD _,Av entry_list_iadd' ?_⟩);rw[Around.under_plainId zD _];refine AX main (λz st x=> ?_) λz st x=> ?_
 ·cases z with
  |done f=>obtain⟨h',tk,acc,c',e,rfl,k1,k2,k3⟩:=x;cases e;exact fin h' tk acc c' k1 k2 k3
  |again c1=>refine⟨x.1,Aj x.2 λy st y2=> ?_⟩;obtain⟨h',tk,acc,c',rfl,rfl,k1,k2,k3⟩:=y2;exact fin h' tk acc c' k1 k2 k3
 ·obtain⟨_,_,_,_,e,_⟩:=x;cases e
theorem zY(r:BF)(n:Nat)(t u v:Tok)(hn:n<=10000):Meets (Builtin.«tuple.__new__» ⟨[.type "tuple",.ref r],[]⟩) (λA R s=>A.handled=none/\IsRange s.heap r 0 (n:Int) 1 t u v/\∀ (h':BH) (tk:Nat) (acc:Array BD),(∀b o,s.heap.get? b=some o->h'.get? b=some o)->ItemsOf (λi v=>∃t,v=.int (0+i*1) t) acc n->R (.ok (.ret<|.ref h'.objs.size)) {s with heap:=h'.push {cls:=.type "tuple",data:=.seq acc},toks:=tk}):=
 .of_wp λprog w A R s h=>by
  obtain⟨hp,gn,dr,tk,os⟩:=s;obtain⟨hh,ir,q⟩:=h;have a1:=sub_tuple_self;have a2:=init_tuple_lookup;have a3:=madeHere_tuple;have ty:Shared.TypeIs ⟨hp,gn,dr,tk,os⟩ (.ref r) "range":=⟨_,ir,rfl⟩;have hh1:A.in1.handled=none:=hh
  wp_walk using AutoSeq1.wpAny_loadPart' ir,wpAny_typeOf ty,zZ (s:=⟨hp,gn,dr,tk,os⟩) hh1 ir hn
  intro h' tk' acc k1 k2;refine AA (m:=Builtin.Tuple.tupleExact acc.toList.toArray) ?_;unfold Builtin.Tuple.tupleExact;have e:acc.toList.toArray=acc:=by simp
  rw[e];exact AV (AC ⟨_,rfl,q h' tk' acc k1 k2⟩) (show acc.size<=AM by rw[k2.1];exact dA<|eV hn)
theorem xM{Q:BD->BE->Prop}(hh:A.handled=none)(ir:IsRange s.heap r 0 (n:Int) 1 t u v)(hn:n<=10000)
  (q:∀ (h':BH) (tk:Nat) (acc:Array BD),(∀b o,s.heap.get? b=some o->h'.get? b=some o)->ItemsOf (λi v=>∃t,v=.int (0+i*1) t) acc n->Q (.ref h'.objs.size) {s with heap:=h'.push {cls:=.type "tuple",data:=.seq acc},toks:=tk}):AK (AG prog w) A (call (.type "tuple") [.ref r]) Q E s:=
 callType_new F.called_tuple (by decide) (F.typeCall_tuple_1 _) (F.newCall_tuple_1 _) (λobj=>F.args_object_init_2 obj _) F.entry_tuple_new (zY r n t u v hn) ⟨hh,ir,λh' tk acc k1 k2=>⟨⟨_,bN _ rfl,rfl⟩,q h' tk acc k1 k2⟩⟩
variable {X:Cx}{sd:List Slot}{e:Expr}{pos:Pos}
theorem sC{p p2 q2:Pos}(hg:Gl X "tuple")(hm:X.mg "tuple"=none)(hg2:Gl X "range")(hm2:X.mg "range"=none)(ha:PEd X sd e (.val<|.int (n:Int)))(h1:n<=10000)
  (hc:X.calm=true:=by rfl) (hst:AB [e] X.env=(false,eval e X.env)::AB [] X.env:=by rfl) (hst2:AB [.Call (.Name "range" p2) [e] [] q2] X.env=(false,eval (.Call (.Name "range" p2) [e] [] q2) X.env)::AB [] X.env:=by rfl):
  PEd X sd (.Call (.Name "tuple" p) [.Call (.Name "range" p2) [e] [] q2] [] pos) (.val<|.tup (bT<|bR n)):=.mk λσ F H S pins s I=>by
 refine AR (lW I hg hm PyProof.Rows.boot_tuple<|PyProof.Rows.callWith_type1 ?_ hst2 rfl);rw[hst2];refine Calls.spliced_cons (AR<|lW I hg2 hm2 boot_range ?_);refine PyProof.Rows.callWith_type1 (thn ((cY (te:=wE X e) eR pa_nil hst) q2 pins s σ H (λus H1=>∃v F1,us=[v]/\StF X.K X.B₀ F1 H1 σ sd/\Same F F1/\ResOk X.K F1 H1 sd (.val<|.int (n:Int)) v) I<|(ha σ F H S).imp λv H1 ⟨F1,S1,s1,q1⟩=>⟨v,F1,rfl,S1,s1,q1⟩) λus s1 hus=> ?_) hst rfl;obtain⟨ws,H1,I1,rv,v,F1,rfl,S1,sF,q1⟩:=hus;obtain⟨u,rfl,ru⟩:=pG rv;simp only[ResOk,Rep] at q1;subst q1;obtain⟨t,rfl⟩:=ru;refine call_range_1<|Calls.spliced_nil ?_;refine xM (I1.ok.hd hc) (IsRange.new ..) h1 λh' tk acc kp it=> ?_
 have kp2:∀b o,s1.heap.get? b=some o->h'.get? b=some o:=λb o g=>kp b o<|aF _ g
 have le:s1.heap.objs.size<=h'.objs.size:=dA<|aP (kp s1.heap.objs.size _<|bN _ rfl);have hD:H1 h'.objs.size=none:=I1.hok.fresh le;have ln:acc.toList.length=n:=by rw[cO];exact it.1
 have vl:Vals ((bR n).map λ(k:Nat)=>V.int (k:Int)) acc.toList:=by
  have g:∀ (l:List BD) (f:Nat->Int),(∀ (j:Nat) (v:BD),l[j]? =some v->∃t,v=.int (f j) t)->Vals ((bR l.length).map λ(k:Nat)=>V.int<|f k) l:=λl=>by
   induction l with
   |nil=>intro f _;exact .nil
   |cons x l ih=>intro f h;obtain⟨t,e⟩:=h 0 x rfl;rw[bD,aCy,aW,aV];exact .cons ⟨t,e⟩ (ih (λk=>f<|k+1) λj v hv=>h (j+1) v<|by simpa using hv)
  have:=g acc.toList (λk=>(k:Int)) λj v hv=>by obtain⟨t,e⟩:=it.2 j v (by rw[<-dE];exact hv);exact⟨t,by rw[e];congr 1;omega⟩
  rw[ln] at this;exact this
 have I3:Inv X pins σ (upd H1 h'.objs.size (.tup<|(bR n).map λ(k:Nat)=>V.int (k:Int))) {s1 with heap:=h'.push {cls:=.type "tuple",data:=.seq acc},toks:=tk}:=
  I1.laid (λb o g=>aF _<|kp2 b o g) le ⟨by rw[aC,fH];exact dA<|eV h1,acc.toList,vl,by simpa using IsTupD.new h' acc⟩
 obtain⟨S4,s4⟩:=S1.lay (o:=.tup<|(bR n).map λ(k:Nat)=>V.int (k:Int)) hD trivial;refine⟨.ref h'.objs.size,_,I3,rfl,_,S4,sF.trans s4, ?_⟩;simp only[ResOk,Rep];refine⟨_,_,rfl,bJ, ?_⟩
 have gg:∀ks:List Nat,RepL X.K (upd F1 h'.objs.size (.tup<|(bR n).map λ(k:Nat)=>V.int (k:Int))) (ks.map λ(k:Nat)=>D.int (k:Int)) (ks.map λ(k:Nat)=>V.int (k:Int)):=λks=>by
  induction ks with
  |nil=>exact .nil
  |cons k ks ih=>exact .cons (by simp only[Rep]) ih
 exact gg _
theorem aAX{α:Type}{f:α->D}{L:List α}{t:Nat}{d:D}(h:(L.map f)[t]? =some d):∃x,L[t]? =some x/\d=f x/\L.take (t+1)=L.take t++[x]:=by rw[aZ] at h;obtain⟨x,h1,h2⟩:=eO.mp h;exact⟨x,h1,h2.symm,by rw[eP,h1];rfl⟩
namespace S45
end S45
theorem StkOk.pr(S:StkOk p L):∀k,k<L.length->1<=prK L k:=λk hk=>(S.st _<|DL.getD_mem (d:=(AQ:SK)) hk).2.1
theorem aGK(hp:p∈bW)(S:StkOk p L){row:List Nat}(h:gC L row):∀ws∈S45.tabQ (xL p L) (bV p) row,ws∈bV p:=λws hw=>by obtain⟨q1,q2⟩:=aCF hp (λs hs=>(S.st s hs).1) h;rw[<-q2] at hw;obtain⟨i,hi,rfl⟩:=aQ.mp hw;exact DL.getD_mem<|q1.2 i hi
end DL
namespace L2
open PySem PySem.Spec PyProof.Rows
end L2
namespace DL
open PySem PySem.Spec PyProof.Rows L2
section
variable {prog:AE}{w:AL}{K:Type}[DecidableEq K]{knd:HeapKind prog w K}{A:BG}{E:BD->BE->Prop}{s:BE}
theorem aAc{d a:BF}{xs:List (K×BF×BD)}{k:K}{j:Nat}{p:BF×BD}{Q:Option DictEntry->BE->Prop}(hu:knd.room A)(hkey:knd.is s.heap k a)(hm:s.heap.DictOfH knd d xs)(hj:xs[j]? =some (k,p))
  (hQ:∀h',h'.DictOfH knd d (xs.eraseIdx j)->Heap.SameBut d s.heap h'->Q (some<|entryOfKey knd (k,p)) {s with heap:=h',toks:=s.toks+knd.draws k})
  (hsz:xs.length<=AM):
  AK (AG prog w) A (Builtin.Dict.takeOut d<|.ref a) Q E s:=by
 obtain⟨o,es,ep,ho,hc,hd,he,his,hn⟩:=hm;have hes:es.size<=AM:=by have e:=Au he;omega
 unfold Builtin.Dict.takeOut
 try with_reducible refine Ak ?_
 refine AA<|knd.pyHash hu hkey ?_;refine AA<|wpAny_dictFind_heap (s:={s with toks:=s.toks+knd.draws k}) hu hkey ho hd he his hn (λno=>absurd hj<|no j p) λj' p' hj'=> ?_
 have ej:j'=j:=by obtain⟨i1,e1⟩:=aD.mp hj';obtain⟨i2,e2⟩:=aD.mp hj;refine(jW (i:=j') (j:=j) (h₀:=by rw[aC];exact i1) (h₁:=by rw[aC];exact i2) hn).mp ?_;rw[eG,eG,e1,e2]
 subst ej;rw[hj] at hj';cases hj';refine AA<|An (s:={s with toks:=s.toks+knd.draws k}) ho hd ?_;rw[entry_at he j',hj];refine AA (wpAny_updateDictKeys (hz:=hes) (s:={s with toks:=s.toks+knd.draws k}) ho hd<|AC (hQ _ ⟨_,_,ep+1,fQ _ ho (Obj.isFreed_of_dict<|Obj.data_mapDictKeys hd _),hc.mapDictKeys _,Obj.data_mapDictKeys hd _, ?_,λx hx=> ?_, ?_⟩<|Heap.SameBut.update ..))
 ·have:(es.eraseIdxIfInBounds j').toList=es.toList.eraseIdx j':=by obtain⟨l⟩:=es;simp
  rw[this,he,yH]
 ·exact knd.keeps (his x<|iZ hx) ho hd<|Heap.SameBut.update ..
 ·exact hn.sublist<|(pA _ _).map _
end
section
variable {prog:AE}{w:AL}{K:Type}[DecidableEq K](knd:HeapKind prog w K)(d a:BF)
theorem aBU:
  MeetsIn prog w (Builtin.«dict.pop» ⟨[.ref d, .ref a],[]⟩) (fun A R s=>knd.room A.in1∧∃k xs j p,knd.is s.heap k a∧s.heap.DictOfH knd d xs∧xs.length≤AM∧xs[j]? =some (k,p)∧
   ∀h',h'.DictOfH knd d (xs.eraseIdx j)->Heap.SameBut d s.heap h'->R (.ok (.ret p.2)) {s with heap:=h',toks:=s.toks+knd.draws k}):=
 .of_wp λA R s ⟨hu,k,xs,j,p,hkey,hm,hz,hj,h⟩=>by
  unfold Builtin.«dict.pop»;refine AA ?_;unfold Builtin.Dict.keyAndDefault;refine AA<|Aw hm.typeIs ?_;show AK _ _ (pure (d,Value.ref a,none)) _ _ s;refine AC ?_;have hp:(keyPart<|Value.ref a).isSome=false:=rfl;simp only[hp,bZ,if_false];obtain⟨o,es,ep,ho,hc,hd,he,his,hn⟩:=id hm;refine AA<|An ho hd (AA<|AC ?_)
  have ne:es.isEmpty=false:=by have e:=Au he;have:=(aD.mp hj).1;rw[Array.isEmpty_eq_false_iff_exists_mem];exact⟨es[0],Array.getElem_mem<|by omega⟩
  simp only[ne,bZ,if_false];refine AA<|aAc hu hkey hm hj (λh' hm' hs'=> ?_) hz;simp only[Option.isNone_some,bZ,if_false];exact AA (wpAny_letGo<|AC ⟨_,rfl,h h' hm' hs'⟩)
end
variable {X:Cx}{sd:List Slot}{c:Expr}{es:List Expr}{pos cp p p2:Pos}{ds:List D}{E:hW}{k n:Nat}{f x:Str}
theorem aFq{Z:Lent X.K}{C:Z.α->List D->(Z.α->Prop)->Prop}{post:Z.α->Prop}{a:Z.α}(i:Nat)(hs:sd[i]? =some (Z.sl a))(hxi:PE X (.Name x p2) (iI i))(G:pS X.prog X.w X.K Z X.mg X.base f k n C)(hr:Room k X.A)(hg:Gl X f)(ha:PAd X sd es (ds.map R.val))(hc:C a ds post)(hp:∀a',post a'->Z.ad a'=Z.ad a)(hn:ds.length+1=n)(hE:∀a',post a'->E.nx (sd.set i<|Z.sl a'))
  (hdb:(f==("__debug__":Str))=false:=by decide) (he:AB (.Name x p2::es) X.env=(false,eval (.Name x p2) X.env)::AB es X.env:=by rfl) (hpl:(Aa cp<|AB es X.env).any (·.1)=false:=by rfl)
  (hsw:AY (.Call (.Name f p) (.Name x p2::es) [] cp) none pos.line X.env=pure false:=by rfl):PSd1 X sd (.Expr (.Call (.Name f p) (.Name x p2::es) [] cp) pos) E:=.mk λσ F H S=>by
 obtain⟨fa,fd,ps,hm,hkp,bd,G⟩:=G.ex;obtain⟨o0,h1,v,h2,_⟩:=S.slots.get hs;refine(oR (zF (FnOk.framedL G) hr hg hm hkp bd .nil aCK (cY hxi qT he) hdb he hpl) hsw).to ⟨v,by rw[h1,h2],(ha σ F H S).imp λus H1 ⟨F1,S1,s1,q1⟩=> ?_⟩;have rl:=q1.vals;obtain⟨o1,g1,so⟩:=S1.slots.get hs
 have eo:o1=some v:=by rw[h1,h2] at g1;exact(bM.inj g1).symm
 subst eo;refine⟨by rw[bG,bD,rl.len];exact hn,S1.smp,v,us,F1,a,ds,post,by rw[bG],S1.sub,so,gU S1.nd hs,rl,hc,hp,λF' H' a' pa s2 s3 sm so' nd kp kf=> ?_⟩;have S2:=S1.le<|gB sd i;have no:∀b,b∈bU (sd.set i .un)->b∉Z.own a:=λb hb z=>gF S1.nd hs (show b∈fC (Z.sl a) from z) hb
 have S3:StF X.K X.B₀ F' H' σ (sd.set i .un):=⟨fun b o e=>s2 _ _ (S1.base _ _ e),s3,sm,S2.slots.mono s2 fun b hb=>by
  obtain⟨n1,ob,e,_⟩:=S2.slots.owns hb
  exact⟨(kf b ob (no b hb) e n1).1,λxs e'=>kp b xs (no b hb) e'⟩,S2.nd⟩
 have S4:=S3.setT i so' nd λb hb hb2=>by obtain⟨n1,ob,e,_⟩:=S2.slots.owns hb2;exact(kf b ob (no b hb2) e n1).2 hb
 rw[jF,lF g1] at S4;exact⟨_,F',S4,s1.trans s2,hE a' pa⟩
theorem aEO{body:List BJ}(W:Nat->List Slot->Prop)(h0:∃m sd0,Le sd sd0/\W m sd0)
  (hb:∀m sdm,W m sdm->∃t:Bool,PTd X sdm c t/\(t=false->E.nx sdm)/\(t=true->PSd X sdm body {E with nx:=λsd'=>∃m' sd2,m'<m/\Le sd' sd2/\W m' sd2,ct:=λsd'=>∃m' sd2,m'<m/\Le sd' sd2/\W m' sd2,bk:=E.nx}))
  (hp:PassesOwn (AG X.prog X.w) X.A X.env X.xe:=by exact PassesOwn.never):PSd1 X sd (.While c body [] pos) E:=.mk λσ F H S=>
 (aGS hp aHv pss_w).to (by
  obtain⟨m0,sd0,le0,q0⟩:=h0;refine⟨λm σ' H'=>∃sdm F',StF X.K X.B₀ F' H' σ' sdm/\Same F F'/\W m sdm,⟨m0,sd0,F,S.le le0,Same.refl _,q0⟩, ?_⟩;rintro m σ' H' ⟨sdm,F',S',s',qm⟩;obtain⟨t,ht,h1,h2⟩:=hb m sdm qm;refine(ht σ' F' H' S').imp λb H1 ⟨eb,F1,S1,s1⟩=> ?_
  subst eb;cases b with
  |false=>exact aIH ⟨sdm,F1,S1,s'.trans s1,h1 rfl⟩
  |true=>
   refine aIC ⟨λσ2 H2=>∃m' sd2 F2,m'<m/\StF X.K X.B₀ F2 H2 σ2 sd2/\Same F F2/\W m' sd2,λσ2 H2 ⟨m',sd2,F2,lt,S2,s2,w2⟩=>⟨m',lt,sd2,F2,S2,s2,w2⟩, ?_⟩;refine(h2 rfl σ' F1 H1 S1).imp ?_ ?_ ?_ ?_
   ·rintro σ4 H4 ⟨sd4,F4,S4,s4,m',sd5,lt,le,q5⟩;exact⟨m',sd5,F4,lt,S4.le le,(s'.trans s1).trans s4,q5⟩
   ·exact λv H4 q=>q
   ·rintro σ4 H4 ⟨sd4,F4,S4,s4,q⟩;exact⟨sd4,F4,S4,(s'.trans s1).trans s4,q⟩
   ·rintro σ4 H4 ⟨sd4,F4,S4,s4,m',sd5,lt,le,q5⟩
    exact⟨m',sd5,F4,lt,S4.le le,(s'.trans s1).trans s4,q5⟩)
theorem aAi{P:AE}{w:AL}{H:Hp}{h h':BH}{cs:List BF}(x:HOk P w H h)(k:∀b u,b∉cs->h.get? b=some u->h'.get? b=some u)(hn:∀b∈cs,H b=none):HOk P w H h':=λa o e=>
 (x a o e).stay (fun b u hb q=>k b u (fun z=>by
  have n:=hn b z
  rcases hb with rfl|hb
  ·rw[e] at n;cases n
  ·rw[hb] at n
   cases n) q) (λ_ q=>q) λ_ _ q=>q
variable {prog:AE}{w:AL}{A:BG}{d I:BF}{od:BI}{es:Array DictEntry}{ep:Nat}
theorem aMp(hh:A.handled=none)(c:od.data=.dict es ep)(ne:d≠I):Walks prog w A I [I,d] [I] es.size (λi v=>∃u,es[i]? =some u/\v=u.key) (λi h=>h.IsKeyIter I d i es.size ep/\h.get? d=some od) where
 sub:=λb hb=>bA.mpr (.inl<|aH.mp hb)
 frame:=λi h h' st k=>by obtain⟨⟨o,g,q⟩,g2⟩:=st;exact⟨⟨o,k I aG o g,q⟩,k d (by simp) od g2⟩
 item:=λi s Q E hi st q=>aEV st.1 st.2 c hi λh' st' sb=>q _ h' s.toks ⟨es[i],by simp[hi],rfl⟩ ⟨st',(sb.2 d ne).trans st.2⟩ λb o hb g=>(sb.2 b λz=>hb<|by rw[z];exact bX _).trans g
 done:=λs Q E st q=>aHh hh st.1 st.2 c (aJ _) λh' eb=>q h' s.toks λb o hb g=>eb b o (λz=>hb<|by rw[z];exact bX _) g
 self:=λi s Q E st q=>wpAny_pyIter_keyiter st.1 q
theorem srcD(sm:(d==AZ)=false)(x:od.ExactDict)(c:od.data=.dict es ep):PySem.W.KdlSrc prog w "dict" d d es.size (λi v=>∃u,es[i]? =some u/\v=u.key) (λh=>h.get? d=some od) where
 type:=λs ok=>qF ok x
 there:=λh ok=>⟨aP ok,aP ok⟩
 keep:=λh h' ok k=>k d (.inl rfl) od ok
 notList:=by decide
 notTuple:=by decide
 hint:=λA E s Q ok q=>PySem.W.kdl_hint_dict (qF ok x) q
 iter:=λA s hh ok=>⟨_,_,λE Q q=>aGi sm ok x c q,aMp hh c (bQ<|aP ok),⟨⟨_,bN _ rfl,rfl,rfl⟩,aF _ ok⟩⟩
section
variable {prog:AE}{w:AL}{A:BG}{I:BF}{fp wr:List BF}{n:Nat}{P:Nat->BD->Prop}{St:Nat->BH->Prop}{J:BH->Prop}{bt:Nat->Nat->Bool}{R:Result->BE->Prop}{S:BF}
def aOg(prog:AE)(w:AL)(A:BG)(J:BH->Prop)(P:Nat->BD->Prop)(bt:Nat->Nat->Bool):Prop:=∀i k x y (t:BE) (Q:BD->BE->Prop) (E:BD->BE->Prop),J t.heap->P i x->P k y->Q (.bool<|bt i k) t->AK (AG prog w) A (richCompare .Lt x y) Q E t
def aJb(cs:List BF)(J:BH->Prop):Prop:=∀h h':BH,J h->(∀b o,b∉cs->h.get? b=some o->h'.get? b=some o)->J h'
noncomputable def two2(v:BD)(c:Nat):BI:={cls:=.type "list",dict:=none,data:=.seq #[v,v] c,slots:= #[]}
theorem aFi(W:Walks prog w A.in1 I fp wr n P St)(ask:aOg prog w A.in1 J P bt)(stay:aJb (S::wr) J)(nS:S∉fp):∀ (k j:Nat) (s:BE) (v0:BD) (c:Nat),n=k+(j+1)->St (j+1) s.heap->P (Ac bt j) v0->J s.heap->s.heap.get? S=some (two2 v0 c)->
  (∀v h' tk,P (Ac bt<|n-1) v->(∀b o,b∉S::wr->s.heap.get? b=some o->h'.get? b=some o)->R (.ok<|.ret v) {s with heap:=h',toks:=tk})->Az (AG prog w) A (.builtin "min.loop" ⟨[.ref I,.none,.ref S],[]⟩) R s:=λk=>by
 have nW:S∉wr:=λz=>nS<|W.sub S z
 have nm:(toString "min"++toString ".loop":String)="min.loop":=by decide
 have upO:∀ {h:BH}{f:BI->BI}{b:BF}{o:BI},b∉S::wr->h.get? b=some o->(h.update S f).get? b=some o:=λ{h f b o} hb g=>by rw[cP _ _ (λz=>hb<|by rw[<-z];exact aG)];exact g
 have upF:∀ {h:BH}{f:BI->BI}{i:Nat},St i h->St i (h.update S f):=λ{h f i} st=>W.frame _ _ _ st λb hb o g=>by rw[cP _ _ (show S≠b from λz=>nS<|by rw[z];exact hb)];exact g
 have sub1:∀ {b:BF},b∉S::wr->b∉wr:=λhb z=>hb<|aE _ z
 induction k with
 |zero=>
  intro j s v0 c en st p0 hJ hS fin;have ej:n=j+1:=by omega
  refine Av F.entry_min_loop ?_;rw[Around.under_plainId F.plain_min_loop];refine AA (m:=seqItems?<|.ref S)<|wpAny_seqItems hS rfl ?_;refine AA (m:=tryCatch (pyNext<|.ref I) _) (wpAny_tryCatch<|W.done s _ _ (by rw[ej];exact st) λh1 tk k1=> ?_);refine AA (m:=updateSeq S λ_=> #[]) (wpAny_updateSeq (k1 S _ nW hS) rfl<|AA (wpAny_letGo<|AC ?_));exact fin v0 _ tk (by rw[ej];exact p0) λb o hb g=>upO hb<|k1 b o (sub1 hb) g
 |succ k ih=>
  intro j s v0 c en st p0 hJ hS fin;refine Av F.entry_min_loop ?_;rw[Around.under_plainId F.plain_min_loop];refine AA (m:=seqItems?<|.ref S)<|wpAny_seqItems hS rfl ?_;refine AA (m:=tryCatch (pyNext<|.ref I) _) (wpAny_tryCatch<|W.item (j+1) s _ _ (by omega) st λv h1 tk pv st1 k1=> ?_);have hS1:=k1 S _ nW hS;have hJ1:J h1:=stay _ _ hJ λb o hb g=>k1 b o (sub1 hb) g
  refine AA (m:=tryCatch (holding [v,v]<|richCompare .Lt v v0>>=_) _) (wpAny_tryCatch<|Ak (AA<|ask (j+1) (Ac bt j) v v0 ⟨h1,s.gens,s.drawn,tk,s.os⟩ _ _ hJ1 pv p0 ?_));refine AA<|Ak (Ax<|AA (wpAny_letGo<|AC ?_));have ab:Ac bt (j+1)=if bt (j+1) (Ac bt j) then j+1 else Ac bt j:=rfl
  cases q:bt (j+1) (Ac bt j) with
  |true=>rw[q,if_pos rfl] at ab;simp only[if_true];refine AA<|wpAny_updateSeq hS1 rfl (AA<|wpAny_letGo ?_);rw[nm];refine AC ⟨plainId_quiet F.plain_min_loop _,ih (j+1) _ v _ (by omega) (upF st1) (by rw[ab];exact pv) (stay _ _ hJ1 λb o hb g=>upO hb g) (fQ _ hS1 rfl) λv' h2 tk2 p2 k2=> ?_⟩;exact fin v' h2 tk2 p2 λb o hb g=>k2 b o hb (upO hb<|k1 b o (sub1 hb) g)
  |false=>rw[q,if_neg bH] at ab;simp only[bZ,if_false];refine AA<|wpAny_letGo ?_;rw[nm];refine AC ⟨plainId_quiet F.plain_min_loop _,ih (j+1) _ v0 c (by omega) st1 (by rw[ab];exact p0) hJ1 hS1 λv' h2 tk2 p2 k2=> ?_⟩;exact fin v' h2 tk2 p2 λb o hb g=>k2 b o hb<|k1 b o (sub1 hb) g
theorem aBR(W:Walks prog w A.in1 I fp wr n P St)(ask:aOg prog w A.in1 J P bt)(stay:aJb (S::wr) J)(nS:S∉fp)(h0:0<n){s:BE}{c:Nat}(st:St 0 s.heap)(hJ:J s.heap)(hS:s.heap.get? S=some {cls:=.type "list",dict:=none,data:=.seq #[] c,slots:= #[]})
  (fin:∀v h' tk,P (Ac bt<|n-1) v->(∀b o,b∉S::wr->s.heap.get? b=some o->h'.get? b=some o)->R (.ok<|.ret v) {s with heap:=h',toks:=tk}):Az (AG prog w) A (.builtin "min.loop" ⟨[.ref I,.none,.ref S],[]⟩) R s:=by
 have nW:S∉wr:=λz=>nS<|W.sub S z
 have nm:(toString "min"++toString ".loop":String)="min.loop":=by decide
 have upO:∀ {h:BH}{f:BI->BI}{b:BF}{o:BI},b∉S::wr->h.get? b=some o->(h.update S f).get? b=some o:=λ{h f b o} hb g=>by rw[cP _ _ (λz=>hb<|by rw[<-z];exact aG)];exact g
 have sub1:∀ {b:BF},b∉S::wr->b∉wr:=λhb z=>hb<|aE _ z
 refine Av F.entry_min_loop ?_;rw[Around.under_plainId F.plain_min_loop];refine AA (m:=seqItems?<|.ref S)<|wpAny_seqItems hS rfl ?_;refine AA (m:=tryCatch (pyNext<|.ref I) _) (wpAny_tryCatch<|W.item 0 s _ _ h0 st λv h1 tk pv st1 k1=> ?_);have hS1:=k1 S _ nW hS;refine AA (m:=updateSeq S λ_=> #[v,v])<|wpAny_updateSeq hS1 rfl ?_;rw[nm];refine AC ⟨plainId_quiet F.plain_min_loop _,aFi W ask stay nS (n-1) 0 _ v _ (by omega) (W.frame _ _ _ st1 λb hb o g=> ?_) pv (stay _ _ hJ λb o hb g=>upO hb<|k1 b o (sub1 hb) g) (fQ _ hS1 rfl) λv' h2 tk2 p2 k2=> ?_⟩
 ·rw[cP _ _ (show S≠b from λz=>nS<|by rw[z];exact hb)];exact g
 ·exact fin v' h2 tk2 p2 λb o hb g=>k2 b o hb (upO hb<|k1 b o (sub1 hb) g)
theorem aEr{E:BD->BE->Prop}{s:BE}{x:BD}{Q:BD->BE->Prop}
  (h:AK (AG prog w) A.in1 (pyIter x) (fun it t=>∃ (I:BF) (fp wr:List BF) (n:Nat) (P:Nat→BD→Prop) (St:Nat→BH→Prop) (J:BH→Prop) (bt:Nat→Nat→Bool),it= .ref I∧Walks prog w A.in1 I fp wr n P St∧St 0 t.heap∧(∀b∈fp,b<t.heap.objs.size)∧0<n∧aOg prog w A.in1 J P bt∧J t.heap∧aJb (t.heap.objs.size::wr) J∧
   ∀v h' tk,P (Ac bt (n-1)) v->(∀b o,b∉wr->t.heap.get? b=some o->h'.get? b=some o)->Q v {t with heap:=h',toks:=tk}) E s):
  AK (AG prog w) A (call (.builtin "min") [x]) Q E s:=by
 have nm:(toString "min"++toString ".loop":String)="min.loop":=by decide
 refine call_function_tree F.kind_min F.plain_min F.entry_min (F.args_min1 _) ?_;refine AA (m:=Builtin.Builtins.bindParams "min" ["key","default"] 0 ⟨[],[]⟩)<|wpAny_of_eq (a:=[none,none]) rfl (AA<|AC ?_);refine AA<|AX h (λit t hx=> ?_) λ_ _ z=>z;obtain⟨I,fp,wr,n,P,St,J,bt,rfl,W,st,hfp,h0,ask,hJ,stay,q⟩:=hx;refine AA<|AV ?_;have nS:t.heap.objs.size∉fp:=λz=>eD _<|hfp _ z
 rw[nm];refine AC ⟨plainId_quiet F.plain_min_loop _,aBR W ask stay nS h0 (W.frame _ _ _ st λb _ o g=>aF _ g) (stay _ _ hJ λb o _ g=>aF _ g) (bN _ rfl) λv h' tk pv k=> ?_⟩;refine q v h' tk pv λb o hb g=>k b o (λz=> ?_)<|aF _ g
 rcases bA.mp z with z|z
 ·exact eD _<|z▸aP g
 ·exact hb z
end
noncomputable def rkA(r:AH->Nat)(xs:Array AH)(i:Nat):Nat:=match xs[i]? with
 |some p=>r p
 |none=>0
def AscR(r:AH->Nat)(xs:Array AH)(l h:Nat):Prop:=∀i j,l<=i->i<j->j<h->rkA r xs i<rkA r xs j
theorem gJ{r:AH->Nat}{xs ys:Array AH}{i j:Nat}(h:xs[i]? =ys[j]?):rkA r xs i=rkA r ys j:=by unfold rkA;rw[h]
theorem dG{r:AH->Nat}{xs:Array AH}{i:Nat}(h:i<xs.size):rkA r xs i=r xs[i]:=by unfold rkA;rw[getElem?_pos xs i h]
structure kK(prog:AE)(w:AL)(A:BG)(E:BD->BE->Prop)(s:BE)(κ:Ar)(r:AH->Nat)(a₀:Array AH):Prop where
 ask:∀ {x y:AH}{st:BK}{Q:Option Bool->BK->Prop},x∈a₀.toList->y∈a₀.toList->kindOf st=κ->Q (some (decide<|r x<r y)) st->wpS (AG prog w) A E s (lt' x y) Q st
 nd:(a₀.toList.map r).Nodup
structure SB(κ:Ar)(a₀:Array AH)(st:BK):Prop where
 perm:(AJ st).Perm a₀
 kind:kindOf st=κ
 failed:failedOf st=none
structure Stp(κ:Ar)(a₀:Array AH)(lo hi:Nat)(st st':BK):Prop where
 sb:SB κ a₀ st'
 pend:AD st'=AD st
 keep:∀k,k<lo\/hi<=k->(AJ st')[k]? =(AJ st)[k]?
variable {E:BD->BE->Prop}{s:BE}{κ:Ar}{r:AH->Nat}{a₀:Array AH}{st st':BK}
theorem SB.size(h:SB κ a₀ st):(AJ st).size=a₀.size:=h.perm.size_eq
theorem SB.mem(h:SB κ a₀ st){i:Nat}(hi:i<(AJ st).size):(AJ st)[i]∈a₀.toList:=(fN.mp h.perm).mem_iff.mp<|by simp
theorem aOF{xs:Array AH}(nd:(xs.toList.map r).Nodup){i j:Nat}(hi:i<xs.size)(hj:j<xs.size)(hij:i≠j):rkA r xs i≠rkA r xs j:=λe=>by
 rw[dG hi,dG hj] at e;have e2:(xs.toList.map r)[i]'(by simpa using hi)=(xs.toList.map r)[j]'(by simpa using hj):=by simpa using e
 exact hij<|(jW nd).mp e2
theorem SB.nd(h:SB κ a₀ st)(K:kK prog w A E s κ r a₀):((AJ st).toList.map r).Nodup:=(((fN.mp h.perm).map r).nodup_iff).mpr K.nd
theorem SB.ne(h:SB κ a₀ st)(K:kK prog w A E s κ r a₀){i j:Nat}(hi:i<a₀.size)(hj:j<a₀.size)(hij:i≠j):rkA r (AJ st) i≠rkA r (AJ st) j:=
 aOF (h.nd K) (by rw[h.size];exact hi) (by rw[h.size];exact hj) hij
theorem Stp.refl(h:SB κ a₀ st)(lo hi:Nat):Stp κ a₀ lo hi st st:=⟨h,rfl,λ_ _=>rfl⟩
theorem Stp.trans{lo hi:Nat}{st'':BK}(h:Stp κ a₀ lo hi st st')(h2:Stp κ a₀ lo hi st' st''):Stp κ a₀ lo hi st st'':=⟨h2.sb,h2.pend.trans h.pend,λk hk=>(h2.keep k hk).trans<|h.keep k hk⟩
theorem SB.setArr(h:SB κ a₀ st){xs:Array AH}(hp:xs.Perm (AJ st)):SB κ a₀ (setArr st xs):=⟨hp.trans h.perm,h.kind,h.failed⟩
theorem dL{xs:Array AH}{i:Nat}{Q:AH->BK->Prop}(hi:i<xs.size)(h:Q xs[i] st):wpS (AG prog w) A E s (elem' xs i) Q st:=by rw[elem'_eq,getElem?_pos xs i hi];exact AI h
theorem qZ{i j:Nat}{Q:Option Bool->BK->Prop}(K:kK prog w A E s κ r a₀)(hB:SB κ a₀ st)(hi:i<a₀.size)(hj:j<a₀.size)
  (h:Q (some (decide<|rkA r (AJ st) i<rkA r (AJ st) j)) st):wpS (AG prog w) A E s (ltAt' i j) Q st:=by
 have hi':i<(AJ st).size:=by rw[hB.size];exact hi
 have hj':j<(AJ st).size:=by rw[hB.size];exact hj
 rw[ltAt'_eq];refine AF<|wpS_get ?_;show wpS _ _ _ _ (do let x <-elem' (AJ st) i;let y <-elem' (AJ st) j;lt' x y) Q st;refine AF (dL hi'<|AF (dL hj'<|K.ask (hB.mem hi') (hB.mem hj') hB.kind ?_));rw[dG hi',dG hj'] at h;exact h
theorem yY{xs:Array AH}{i j:Nat}(hj:j<=xs.size)(k:Nat):
  rkA r (mirror xs i j<|(j-i) / 2) k=if i<=k/\k<j then rkA r xs (i+j-1-k) else rkA r xs k:=by
 have e:=getElem?_mirror_all (i:=i) hj k
 by_cases h1:i<=k/\k<j
 ·rw[if_pos h1] at e ⊢;exact gJ e
 ·rw[if_neg h1] at e ⊢;exact gJ e
theorem xS{xs:Array AH}{src d:Nat}(hs:src<xs.size)(hd:d<=src)(k:Nat):
  rkA r (bubble xs src d) k=if k=src-d then rkA r xs src else if src-d<k/\k<=src then rkA r xs (k-1) else rkA r xs k:=by
 have e:=getElem?_bubble hs d hd k
 by_cases h1:k=src-d
 ·rw[if_pos h1] at e ⊢;exact gJ e
 ·rw[if_neg h1] at e ⊢
  by_cases h2:src-d<k/\k<=src
  ·rw[if_pos h2] at e ⊢;exact gJ e
  ·rw[if_neg h2] at e ⊢;exact gJ e
theorem AscR.snoc{xs:Array AH}{l h:Nat}(a:AscR r xs l h)(lt:l<h)(q:rkA r xs (h-1)<rkA r xs h):AscR r xs l (h+1):=λi j hi hij hj=>by
 by_cases e:j=h
 ·subst e
  by_cases e2:i=j-1
  ·rw[e2];exact q
  ·exact oF (a i (j-1) hi (by omega)<|by omega) q
 ·exact a i j hi hij<|by omega
theorem aDF{lo a nrem:Nat}{Q:Option (Option Nat)×Nat->BK->Prop}(K:kK prog w A E s κ r a₀)(hB:SB κ a₀ st)(ha:1<=a)(han:a<=nrem)(hn:lo+nrem<=a₀.size)(hs:AscR r (AJ st) lo (lo+a))
  (h:∀m,a<=m->m<=nrem->AscR r (AJ st) lo (lo+m)->(m<nrem->rkA r (AJ st) (lo+m)<rkA r (AJ st) (lo+m-1))->Q (none,m) st):
  wpS (AG prog w) A E s (forIn [a:nrem] ((none,a):Option (Option Nat) × Nat) fun _ __s=>do
   let __x <-ltAt' (lo+__s.snd) (lo+__s.snd-1)
   match __x with
   |some smaller=>if smaller=true then pure (ForInStep.done (none,__s.snd)) else pure (ForInStep.yield (none,__s.snd+1))
   |_=>pure (ForInStep.done (some none,__s.snd))) Q st:=by
 refine AT (I:=λx c st'=>st'=st/\c=(none,x)/\AscR r (AJ st) lo (lo+x)) ?_ ?_ ⟨rfl,rfl,hs⟩
 ·rintro x c st' hx hxn ⟨rfl,rfl,hs'⟩;dsimp only;refine AF (qZ K hB (by omega) (by omega) ?_)
  by_cases q:rkA r (AJ st') (lo+x)<rkA r (AJ st') (lo+x-1)
  ·simp only[q,decide_true,if_true];exact AI<|h x hx (by omega) hs' λ_=>q
  ·simp only[q,decide_false,bZ,if_false];refine AI ⟨rfl,rfl, ?_⟩;have ne:=hB.ne K (i:=lo+x) (j:=lo+x-1) (by omega) (by omega) (by omega);exact hs'.snoc (by omega)<|by omega
 ·rintro c st' ⟨rfl,rfl,hs'⟩;rw[show max a nrem=nrem by omega] at hs' ⊢;exact h nrem han (aJ _) hs' λz=>absurd z<|eD _
def DscR(r:AH->Nat)(xs:Array AH)(l h:Nat):Prop:=∀i j,l<=i->i<j->j<h->rkA r xs j<rkA r xs i
theorem DscR.snoc{xs:Array AH}{l h:Nat}(a:DscR r xs l h)(lt:l<h)(q:rkA r xs h<rkA r xs (h-1)):DscR r xs l (h+1):=λi j hi hij hj=>by
 by_cases e:j=h
 ·subst e
  by_cases e2:i=j-1
  ·rw[e2];exact q
  ·exact oF q (a i (j-1) hi (by omega)<|by omega)
 ·exact a i j hi hij<|by omega
theorem aBW{lo nrem:Nat}{Q:Option Nat->BK->Prop}(K:kK prog w A E s κ r a₀)(hB:SB κ a₀ st)(h1:1<=nrem)(hn:lo+nrem<=a₀.size)
  (h:∀m st',1<=m->m<=nrem->Stp κ a₀ lo (lo+nrem) st st'->AscR r (AJ st') lo (lo+m)->Q (some m) st'):wpS (AG prog w) A E s (countRun' lo nrem) Q st:=by
 rw[countRun'_eq];refine AF<|aDF K hB (aJ 1) h1 hn (λi j h1 h2 h3=>by omega) λm hm1 hm2 hs hq=> ?_;dsimp only
 by_cases e:m=nrem
 ·rw[if_pos<|by simpa using e];exact AI<|h m st hm1 hm2 (.refl hB _ _) hs
 ·rw[if_neg<|by simpa using e]
  by_cases m1:m>1
  ·rw[if_pos m1];refine AF<|qZ K hB (by omega) (by omega) ?_;rw[decide_eq_true (hs lo (lo+m-1) (aJ _) (by omega)<|by omega)];dsimp only;rw[if_pos rfl];exact AI<|h m st hm1 hm2 (.refl hB _ _) hs
  ·rw[if_neg m1];have em:m=1:=by omega
   subst em;have hq:=hq (by omega);refine AF (wpS_lift<|BB ⟨rfl, ?_⟩);refine AF<|Ab (AT (I:=λx c st'=>st'=st/\c=(none,x,0)/\DscR r (AJ st) lo (lo+x)) (Q:=λc st'=>st'=st/\∃m,c=(none,m,0)/\2<=m/\m<=nrem/\DscR r (AJ st) lo (lo+m)) ?step ?fin ⟨rfl,rfl, ?init⟩) ?post
   case init=>
    intro i j h1 h2 h3;have e1:i=lo:=by omega
    have e2:j=lo+1:=by omega
    subst e1 e2;exact hq
   case step=>
    rintro x c st' hx hxn ⟨rfl,rfl,hs'⟩;dsimp only;refine AF<|qZ K hB (by omega) (by omega) ?_
    by_cases q:rkA r (AJ st') (lo+x)<rkA r (AJ st') (lo+x-1)
    ·simp only[q,decide_true,if_true];rw[if_neg<|by omega];exact AI ⟨rfl,rfl,hs'.snoc (by omega) q⟩
    ·simp only[q,decide_false,bZ,if_false];refine AF<|qZ K hB (by omega) (by omega) ?_;have ne:=hB.ne K (i:=lo+x) (j:=lo+x-1) (by omega) (by omega) (by omega);rw[decide_eq_true (show rkA r (AJ st') (lo+x-1)<rkA r (AJ st') (lo+x) by omega)];dsimp only;rw[if_pos rfl];exact AI ⟨rfl,x,rfl,hx,by omega,hs'⟩
   case fin=>rintro c st' ⟨rfl,rfl,hs'⟩;rw[show max (1+1) nrem=nrem by omega] at hs' ⊢;exact⟨rfl,nrem,rfl,by omega,aJ _,hs'⟩
   case post=>
    rintro c st' ⟨rfl,m,rfl,m2,mn,hd⟩;dsimp only;rw[if_neg<|by omega,reverseSlice'_eq];refine AF<|At ?_;have hz:lo+m<=(AJ st').size:=by rw[hB.size];omega
    have S:Stp κ a₀ lo (lo+nrem) st' (setArr st' (mirror (AJ st') lo (lo+m)<|(lo+m-lo) / 2)):=by refine⟨hB.setArr<|mirror_perm _ _ _ _,rfl,λk hk=> ?_⟩;show(mirror (AJ st') lo (lo+m)<|(lo+m-lo) / 2)[k]? =_;rw[getElem?_mirror_all hz,if_neg<|by omega]
    refine AF<|aDF K S.sb (by omega) mn hn (λi j h1 h2 h3=> ?_) λm' a1 a2 a3 _=> ?_
    ·show rkA r (mirror (AJ st') lo (lo+m)<|(lo+m-lo) / 2) i<rkA r (mirror (AJ st') lo (lo+m)<|(lo+m-lo) / 2) j;rw[yY hz,yY hz,if_pos<|by omega,if_pos<|by omega];exact hd _ _ (by omega) (by omega)<|by omega
    ·exact AI<|h m' _ (by omega) a2 S a3
theorem aGZ{lo ok:Nat}{Q:Bool->BK->Prop}(K:kK prog w A E s κ r a₀)(hB:SB κ a₀ st)(hn:lo+n<=a₀.size)(hok:ok<=n)(hs:AscR r (AJ st) lo (lo+ok))
  (h:∀st',Stp κ a₀ lo (lo+n) st st'->AscR r (AJ st') lo (lo+n)->Q true st'):wpS (AG prog w) A E s (binarySort' lo n ok) Q st:=by
 rw[binarySort'_eq]
 refine AF (Ab (AT (I:=fun k c st'=>c=(none,())∧Stp κ a₀ lo (lo+n) st st'∧AscR r (AJ st') lo (lo+min k n))
  (Q:=λc st'=>c=(none,())/\Stp κ a₀ lo (lo+n) st st'/\AscR r (AJ st') lo (lo+n)) ?step ?fin ?init) ?post)
 case post=>rintro c st' ⟨rfl,S,hs'⟩;exact AI<|h st' S hs'
 case init=>refine⟨rfl,.refl hB _ _,λi j hi hij hj=> ?_⟩;exact hs i j hi hij<|by omega
 case fin=>
  rintro c st' ⟨hc,S,hs'⟩;refine⟨hc,S, ?_⟩
  rwa[show min (max (max ok 1) n) n=n by omega] at hs'
 case step=>
  rintro k c st' hak hkn ⟨rfl,S,hs'⟩;rw[show min k n=k by omega] at hs';have hB':=S.sb;have hk:lo+k<a₀.size:=by omega
  refine AF (Ab (AT (I:=fun x c st''=>st''=st'∧∃l r',c=(none,l,r')∧l≤r'∧r'≤k∧r' - l≤k - x∧
    (∀i,i<l->rkA r (AJ st') (lo+i)<rkA r (AJ st') (lo+k))/\(∀i,r'<=i->i<k->rkA r (AJ st') (lo+k)<rkA r (AJ st') (lo+i)))
   (Q:=fun c st''=>st''=st'∧∃l r',c=(none,l,r')∧l≤k∧
    (∀i,i<l->rkA r (AJ st') (lo+i)<rkA r (AJ st') (lo+k))/\(∀i,l<=i->i<k->rkA r (AJ st') (lo+k)<rkA r (AJ st') (lo+i))) ?istep ?ifin ?iinit) ?ipost)
  case iinit=>exact⟨rfl,0,k,rfl,by omega,by omega,by omega,λi hi=>by omega,λi h1 h2=>by omega⟩
  case ifin=>
   rintro c st'' ⟨rfl,l,r',rfl,hlr,hrk,hm,hlo,hhi⟩;have:l=r':=by omega
   subst this;exact⟨rfl,l,l,rfl,hrk,hlo,hhi⟩
  case istep=>
   rintro x c st'' _ hxk ⟨rfl,l,r',rfl,hlr,hrk,hm,hlo,hhi⟩;dsimp only
   by_cases hge:l>=r'
   ·rw[if_pos hge];have:l=r':=by omega
    subst this;exact AI ⟨rfl,l,l,rfl,hrk,hlo,hhi⟩
   ·rw[if_neg hge];refine AF (qZ K hB' hk (by omega) ?_)
    by_cases hless:rkA r (AJ st'') (lo+k)<rkA r (AJ st'') (lo+(l+r') / 2)
    ·simp only[hless,decide_true,if_true];refine AI ⟨rfl,l,(l+r') / 2,rfl,by omega,by omega,by omega,hlo,λi h1 h2=> ?_⟩
     by_cases e:i=(l+r') / 2
     ·rw[e];exact hless
     ·exact oF hless (hs' _ _ (by omega) (by omega)<|by omega)
    ·simp only[hless,decide_false,bZ,if_false];have ne:=hB'.ne K (i:=lo+k) (j:=lo+(l+r') / 2) hk (by omega) (by omega);have hl:rkA r (AJ st'') (lo+(l+r') / 2)<rkA r (AJ st'') (lo+k):=by omega
     refine AI ⟨rfl,(l+r') / 2+1,r',rfl,by omega,by omega,by omega,λi h1=> ?_,hhi⟩
     by_cases e:i=(l+r') / 2
     ·rw[e];exact hl
     ·exact oF (hs' _ _ (by omega) (by omega)<|by omega) hl
  case ipost=>
   rintro c st'' ⟨rfl,l,r',rfl,hlk,hlo,hhi⟩;show wpS _ _ _ _ (do moveDown' (lo+k) (lo+l);pure (ForInStep.yield (none,()))) _ _;rw[moveDown'_eq];have hks:lo+k<(AJ st'').size:=by rw[hB'.size];exact hk
   have ed:lo+k-(lo+l)=k-l:=by omega
   rw[ed];refine AF (At<|AI ⟨rfl,S.trans ⟨hB'.setArr<|bubble_perm _ _ _,rfl,λi hi=> ?_⟩, ?_⟩)
   ·show(bubble (AJ st'') (lo+k)<|k-l)[i]? =_;rw[getElem?_bubble hks _<|by omega,if_neg<|by omega,if_neg<|by omega]
   rw[show min (k+1) n=k+1 by omega];intro i j hi hij hj;show rkA r (bubble (AJ st'') (lo+k)<|k-l) i<rkA r (bubble (AJ st'') (lo+k)<|k-l) j;rw[xS hks<|by omega,xS hks<|by omega,show lo+k-(k-l)=lo+l by omega]
   have hlo':∀i,lo<=i->i<lo+l->rkA r (AJ st'') i<rkA r (AJ st'') (lo+k):=λi a b=>by
    have:=hlo (i-lo)<|by omega
    rwa[show lo+(i-lo)=i by omega] at this
   have hhi':∀i,lo+l<=i->i<lo+k->rkA r (AJ st'') (lo+k)<rkA r (AJ st'') i:=λi a b=>by
    have:=hhi (i-lo) (by omega)<|by omega
    rwa[show lo+(i-lo)=i by omega] at this
   repeat' split
   all_goals first
    |(exfalso;omega)
    |exact hlo' _ (by omega) (by omega)
    |exact hhi' _ (by omega) (by omega)
    |exact hs' _ _ (by omega) (by omega) (by omega)
noncomputable def lP:Bool->AH->Array AH->Nat->Nat->Nat->StateT BK Sem (Option Nat):=sortPriv%PySem.Builtin.gallop
noncomputable def bey(left:Bool)(key:AH)(arr:Array AH)(base i:Nat):StateT BK Sem (Option Bool):=do
  let x <-elem' arr (base+i)
  if left then lt' x key else return (<-lt' key x).map (!·)
theorem aCr(left:Bool)(key:AH)(arr:Array AH)(base n hint:Nat):lP left key arr base n hint=(do
 let mut lastofs:=0
 let mut ofs:=1
 let mut lo:=0
 let mut hi:=0
 let some right <-bey left key arr base hint|return none
 if right then
  let maxofs:=n-hint
  for _ in[0:n] do
   if ofs>=maxofs then break
   let some more <-bey left key arr base (hint+ofs)|return none
   if !more then break
   lastofs:=ofs
   ofs:=2*ofs+1
  lo:=hint+lastofs+1
  hi:=hint+min ofs maxofs
 else
  let maxofs:=hint+1
  for _ in[0:n] do
   if ofs>=maxofs then break
   let some found <-bey left key arr base (hint-ofs)|return none
   if found then break
   lastofs:=ofs
   ofs:=2*ofs+1
  lo:=hint+1-min ofs maxofs
  hi:=hint-lastofs
 for _ in[0:n] do
  if lo>=hi then break
  let m:=lo+(hi-lo) / 2
  let some more <-bey left key arr base m|return none
  if more then lo:=m+1 else hi:=m
 return some hi):=rfl
theorem qE{left:Bool}{key:AH}{xs:Array AH}{base i:Nat}{Q:Option Bool->BK->Prop}(K:kK prog w A E s κ r a₀)(hk:kindOf st=κ)(mx:∀x∈xs.toList,x∈a₀.toList)(mk:key∈a₀.toList)(hi:base+i<xs.size)(ne:rkA r xs (base+i)≠r key)
  (h:Q (some (decide<|rkA r xs (base+i)<r key)) st):wpS (AG prog w) A E s (bey left key xs base i) Q st:=by
 unfold bey;refine AF<|dL hi ?_;have m1:xs[base+i]∈a₀.toList:=mx _ (by simp);rw[dG hi] at h ne;cases left with
 |true=>exact K.ask m1 mk hk h
 |false=>
  refine AF (K.ask mk m1 hk<|AI ?_)
  have e:(!decide (r key<r xs[base+i]))=decide (r xs[base+i]<r key):=by
   by_cases q:r xs[base+i]<r key
   ·rw[decide_eq_true q,decide_eq_false<|by omega];rfl
   ·rw[decide_eq_false q,decide_eq_true<|by omega];rfl
  show Q (some<|!decide (r key<r xs[base+i])) st;rw[e];exact h
theorem AscR.le{xs:Array AH}{base:Nat}(a:AscR r xs base (base+n)){i j:Nat}(hij:i<=j)(hj:j<n):rkA r xs (base+i)<=rkA r xs (base+j):=by
 by_cases e:i=j
 ·rw[e];exact aJ _
 ·exact dA (a _ _ (by omega) (by omega)<|by omega)
theorem oV{left:Bool}{key:AH}{xs:Array AH}{base hint:Nat}{Q:Option Nat->BK->Prop}(K:kK prog w A E s κ r a₀)(hk:kindOf st=κ)(mx:∀x∈xs.toList,x∈a₀.toList)(mk:key∈a₀.toList)(hx:base+n<=xs.size)(hh:hint<n)
  (asc:AscR r xs base (base+n)) (ne:∀i,i<n->rkA r xs (base+i)≠r key)
  (h:∀k,k<=n->(∀i,i<k->rkA r xs (base+i)<r key)->(∀i,k<=i->i<n->r key<rkA r xs (base+i))->Q (some k) st):wpS (AG prog w) A E s (lP left key xs base n hint) Q st:=by
 rw[aCr];refine AF<|qE K hk mx mk (by omega) (ne _ hh) ?_
 by_cases q:rkA r xs (base+hint)<r key
 ·simp only[q,decide_true,if_true]
  refine AF (Ab (AT (I:=fun x c st'=>st'=st∧∃last ofs,c=(none,last,ofs)∧last<ofs∧x+1≤ofs∧hint+last<n∧rkA r xs (base+(hint+last))<r key)
   (Q:=λc st'=>st'=st/\∃last ofs,c=(none,last,ofs)/\last<ofs/\hint+last<n/\rkA r xs (base+(hint+last))<r key/\(n-hint<=ofs\/(hint+ofs<n/\r key<rkA r xs (base+(hint+ofs))))) ?step ?fin ⟨rfl,0,1,rfl,by omega,by omega,hh,q⟩) ?post)
  case fin=>rintro c st' ⟨rfl,last,ofs,rfl,a,b,c,d⟩;exact⟨rfl,last,ofs,rfl,a,c,d,.inl<|by omega⟩
  case step=>
   rintro x c st' _ hxn ⟨rfl,last,ofs,rfl,a,b,c,d⟩;dsimp only
   by_cases z:ofs>=n-hint
   ·rw[if_pos z];exact AI ⟨rfl,last,ofs,rfl,a,c,d,.inl z⟩
   ·rw[if_neg z];refine AF (qE K hk mx mk (by omega) (ne _<|by omega) ?_)
    by_cases y:rkA r xs (base+(hint+ofs))<r key
    ·simp only[y,decide_true,Bool.not_true,bZ,if_false];exact AI ⟨rfl,ofs,2*ofs+1,rfl,by omega,by omega,by omega,y⟩
    ·simp only[y,decide_false,Bool.not_false,if_true];have y':=ne (hint+ofs) (by omega);exact AI ⟨rfl,last,ofs,rfl,a,c,d,.inr ⟨by omega,by omega⟩⟩
  case post=>
   rintro c st' ⟨rfl,last,ofs,rfl,a,b,c,d⟩;dsimp only;have l1:hint+last+1<=hint+min ofs (n-hint):=by omega
   have l2:hint+min ofs (n-hint)<=n:=by omega
   have hl:∀i,i<hint+last+1->rkA r xs (base+i)<r key:=λi hi=>cN (asc.le (by omega) b) c
   have hg:∀i,hint+min ofs (n-hint)<=i->i<n->r key<rkA r xs (base+i):=λi h1 h2=>by
    rcases d with d|⟨d1,d2⟩
    ·omega
    ·exact aS d2<|asc.le (by omega) h2
   refine AF (Ab (AT (I:=fun x c st''=>st''=st'∧∃lo hi,c=(none,lo,hi)∧lo≤hi∧hi≤n∧hi - lo≤n - x∧(∀i,i<lo→rkA r xs (base+i)<r key)∧(∀i,hi≤i→i<n→r key<rkA r xs (base+i)))
    (Q:=λc st''=>st''=st'/\∃k,c=(none,k,k)/\k<=n/\(∀i,i<k->rkA r xs (base+i)<r key)/\(∀i,k<=i->i<n->r key<rkA r xs (base+i))) ?step ?fin ⟨rfl,_,_,rfl,l1,l2,by omega,hl,hg⟩) ?post)
   case post=>rintro c st'' ⟨rfl,k,rfl,a,b,c⟩;exact AI<|h k a b c
   case fin=>
    rintro c st'' ⟨rfl,lo,hi,rfl,a,b,c,d,e⟩;have:lo=hi:=by omega
    subst this;exact⟨rfl,lo,rfl,b,d,e⟩
   case step=>
    rintro x c st'' _ hxn ⟨rfl,lo,hi,rfl,a,b,c,d,e⟩;dsimp only
    by_cases q:lo>=hi
    ·rw[if_pos q];have:lo=hi:=by omega
     subst this;exact AI ⟨rfl,lo,rfl,b,d,e⟩
    ·rw[if_neg q];refine AF (qE K hk mx mk (by omega) (ne _<|by omega) ?_)
     by_cases z:rkA r xs (base+(lo+(hi-lo) / 2))<r key
     ·simp only[z,decide_true,if_true];refine AI ⟨rfl,lo+(hi-lo) / 2+1,hi,rfl,by omega,b,by omega,λi hi'=> ?_,e⟩;exact cN (asc.le (by omega)<|by omega) z
     ·simp only[z,decide_false,bZ,if_false];have z':=ne (lo+(hi-lo) / 2) (by omega);refine AI ⟨rfl,lo,lo+(hi-lo) / 2,rfl,by omega,by omega,by omega,d,λi h1 h2=> ?_⟩;exact aS (by omega)<|asc.le h1 h2
 ·simp only[q,decide_false,bZ,if_false];have q':=ne hint hh
  refine AF (Ab (AT (I:=fun x c st'=>st'=st∧∃last ofs,c=(none,last,ofs)∧last<ofs∧x+1≤ofs∧last≤hint∧r key<rkA r xs (base+(hint - last)))
   (Q:=λc st'=>st'=st/\∃last ofs,c=(none,last,ofs)/\last<ofs/\last<=hint/\r key<rkA r xs (base+(hint-last))/\(hint+1<=ofs\/(ofs<=hint/\rkA r xs (base+(hint-ofs))<r key))) ?step ?fin ⟨rfl,0,1,rfl,by omega,by omega,by omega,by rw[Nat.sub_zero];omega⟩) ?post)
  case fin=>rintro c st' ⟨rfl,last,ofs,rfl,a,b,c,d⟩;exact⟨rfl,last,ofs,rfl,a,c,d,.inl<|by omega⟩
  case step=>
   rintro x c st' _ hxn ⟨rfl,last,ofs,rfl,a,b,c,d⟩;dsimp only
   by_cases z:ofs>=hint+1
   ·rw[if_pos z];exact AI ⟨rfl,last,ofs,rfl,a,c,d,.inl z⟩
   ·rw[if_neg z];refine AF (qE K hk mx mk (by omega) (ne _<|by omega) ?_)
    by_cases y:rkA r xs (base+(hint-ofs))<r key
    ·simp only[y,decide_true,if_true];exact AI ⟨rfl,last,ofs,rfl,a,c,d,.inr ⟨by omega,y⟩⟩
    ·simp only[y,decide_false,bZ,if_false];have y':=ne (hint-ofs) (by omega);exact AI ⟨rfl,ofs,2*ofs+1,rfl,by omega,by omega,by omega,by omega⟩
  case post=>
   rintro c st' ⟨rfl,last,ofs,rfl,a,b,c,d⟩;dsimp only;have l1:hint+1-min ofs (hint+1)<=hint-last:=by omega
   have l2:hint-last<=n:=by omega
   have hl:∀i,i<hint+1-min ofs (hint+1)->rkA r xs (base+i)<r key:=λi hi=>by
    rcases d with d|⟨d1,d2⟩
    ·omega
    ·exact cN (asc.le (by omega)<|by omega) d2
   have hg:∀i,hint-last<=i->i<n->r key<rkA r xs (base+i):=λi h1 h2=>aS c<|asc.le (by omega) h2
   refine AF (Ab (AT (I:=fun x c st''=>st''=st'∧∃lo hi,c=(none,lo,hi)∧lo≤hi∧hi≤n∧hi - lo≤n - x∧(∀i,i<lo→rkA r xs (base+i)<r key)∧(∀i,hi≤i→i<n→r key<rkA r xs (base+i)))
    (Q:=λc st''=>st''=st'/\∃k,c=(none,k,k)/\k<=n/\(∀i,i<k->rkA r xs (base+i)<r key)/\(∀i,k<=i->i<n->r key<rkA r xs (base+i))) ?step ?fin ⟨rfl,_,_,rfl,l1,l2,by omega,hl,hg⟩) ?post)
   case post=>rintro c st'' ⟨rfl,k,rfl,a,b,c⟩;exact AI<|h k a b c
   case fin=>
    rintro c st'' ⟨rfl,lo,hi,rfl,a,b,c,d,e⟩;have:lo=hi:=by omega
    subst this;exact⟨rfl,lo,rfl,b,d,e⟩
   case step=>
    rintro x c st'' _ hxn ⟨rfl,lo,hi,rfl,a,b,c,d,e⟩;dsimp only
    by_cases q:lo>=hi
    ·rw[if_pos q];have:lo=hi:=by omega
     subst this;exact AI ⟨rfl,lo,rfl,b,d,e⟩
    ·rw[if_neg q];refine AF (qE K hk mx mk (by omega) (ne _<|by omega) ?_)
     by_cases z:rkA r xs (base+(lo+(hi-lo) / 2))<r key
     ·simp only[z,decide_true,if_true];refine AI ⟨rfl,lo+(hi-lo) / 2+1,hi,rfl,by omega,b,by omega,λi hi'=> ?_,e⟩;exact cN (asc.le (by omega)<|by omega) z
     ·simp only[z,decide_false,bZ,if_false];have z':=ne (lo+(hi-lo) / 2) (by omega);refine AI ⟨rfl,lo,lo+(hi-lo) / 2,rfl,by omega,by omega,by omega,d,λi h1 h2=> ?_⟩;exact aS (by omega)<|asc.le h1 h2
structure MS(r:AH->Nat)(a b:Array AH)(out:List AH)(ia ib:Nat):Prop where
 ha:ia<=a.size
 hb:ib<=b.size
 perm:out.Perm (a.toList.take ia++b.toList.take ib)
 asc:(out.map r).Pairwise (·<·)
 la:∀x∈out,∀i,ia<=i->i<a.size->r x<rkA r a i
 lb:∀x∈out,∀i,ib<=i->i<b.size->r x<rkA r b i
def MD(r:AH->Nat)(a b:Array AH)(out:List AH):Prop:=out.Perm (a.toList++b.toList)/\(out.map r).Pairwise (·<·)
variable {a b:Array AH}{out:List AH}{ia ib:Nat}
theorem MS.swap(m:MS r a b out ia ib):MS r b a out ib ia:=⟨m.hb,m.ha,m.perm.trans gS,m.asc,m.lb,m.la⟩
theorem MS.pushA(m:MS r a b out ia ib)(h:ia<a.size)(asa:AscR r a 0 a.size)(hb:∀j,ib<=j->j<b.size->rkA r a ia<rkA r b j):MS r a b (out++[a[ia]]) (ia+1) ib:=by
 refine⟨h,m.hb, ?_, ?_,λx hx i h1 h2=> ?_,λx hx i h1 h2=> ?_⟩
 ·have e:a.toList.take (ia+1)=a.toList.take ia++[a[ia]]:=by rw[eP];simp[h]
  rw[e,dI];refine(m.perm.append_right _).trans ?_;rw[dI];exact List.Perm.append_left _ gS
 ·rw[bK,pH];refine⟨m.asc,jK _ _,λx hx y hy=> ?_⟩;obtain⟨z,hz,rfl⟩:=aQ.mp hx;have:y=r a[ia]:=by simpa using hy
  rw[this,<-dG (r:=r) h];exact m.la z hz ia (aJ _) h
 ·rcases aU.mp hx with hx|hx
  ·exact m.la x hx i (by omega) h2
  ·rw[aH.mp hx,<-dG (r:=r) h];exact asa ia i (cQ _) (by omega) h2
 ·rcases aU.mp hx with hx|hx
  ·exact m.lb x hx i h1 h2
  ·rw[aH.mp hx,<-dG (r:=r) h];exact hb i h1 h2
theorem MS.pushB(m:MS r a b out ia ib)(h:ib<b.size)(asb:AscR r b 0 b.size)(hb:∀j,ia<=j->j<a.size->rkA r b ib<rkA r a j):MS r a b (out++[b[ib]]) ia (ib+1):=(m.swap.pushA h asb hb).swap
theorem aHj(h:ia+k<a.size):(a.extract ia<|ia+(k+1)).toList=(a.extract ia<|ia+k).toList++[a[ia+k]]:=by simp only[dF,cR];rw[show ia+(k+1)-ia=k+1 by omega,show ia+k-ia=k by omega,eP];simp[h]
theorem aGl(i:Nat):(a.extract i<|i+0).toList=[]:=by simp[dF,cR]
theorem MS.extA(asa:AscR r a 0 a.size)(m:MS r a b out ia ib):∀k,ia+k<=a.size->(∀i,i<k->∀j,ib<=j->j<b.size->rkA r a (ia+i)<rkA r b j)->MS r a b (out++(a.extract ia<|ia+k).toList) (ia+k) ib
 |0,_,_=>by rw[aGl,bG];exact m
 |k+1,h,hb=>by
  have ih:=MS.extA asa m k (by omega) λi hi=>hb i<|by omega
  rw[aHj<|by omega,<-dI];exact ih.pushA (by omega) asa (hb k<|by omega)
theorem MS.extB(asb:AscR r b 0 b.size)(m:MS r a b out ia ib)(k:Nat)(h:ib+k<=b.size)(hb:∀i,i<k->∀j,ia<=j->j<a.size->rkA r b (ib+i)<rkA r a j):MS r a b (out++(b.extract ib<|ib+k).toList) ia (ib+k):=(m.swap.extA asb k h hb).swap
theorem MS.done(m:MS r a b out a.size b.size):MD r a b out:=by refine⟨?_,m.asc⟩;have:=m.perm;rw[eQ<|by simp,eQ<|by simp] at this;exact this
theorem MS.finA(m:MS r a b out ia b.size)(asa:AscR r a 0 a.size):MD r a b (out++(a.extract ia a.size).toList):=by
 have h:=m.ha;have:=m.extA asa (a.size-ia) (by omega) λi hi j h1 h2=>by omega
 rw[show ia+(a.size-ia)=a.size by omega] at this;exact this.done
theorem MS.finL(m:MS r a b out ia ib)(asa:AscR r a 0 a.size)(asb:AscR r b 0 b.size)(h1:ia+1=a.size)(hab:∀j,j<b.size->rkA r b j<rkA r a (a.size-1)):MD r a b (out++(b.extract ib b.size).toList++(a.extract ia a.size).toList):=by
 have h:=m.hb
 have:=m.extB asb (b.size-ib) (by omega) λi hi j h1 h2=>by
  have e:j=a.size-1:=by omega
  rw[e];exact hab _<|by omega
 rw[show ib+(b.size-ib)=b.size by omega] at this;exact this.finA asa
theorem aJO(i:Nat)(h:a.size<=i):(a.extract i a.size).toList=[]:=by
 rw[dF,cR];have:a.size-i=0:=by omega
 rw[this];rfl
noncomputable def aPB(st:BK)(g:Nat):BK:=SortSt.mk' (kindOf st) (AJ st) (AD st) g<|failedOf st
noncomputable def iR:Nat->StateT BK Sem Unit:=sortPriv%PySem.Builtin.setMinGallop
theorem iC(g:Nat):iR g=modify λs=>aPB s g:=rfl
noncomputable def vG:Array AH->Array AH->StateT BK Sem (Array AH):=sortPriv%PySem.Builtin.mergeLo
structure SameG(st st':BK):Prop where
 kind:kindOf st'=kindOf st
 arr:AJ st'=AJ st
 pend:AD st'=AD st
 failed:failedOf st'=failedOf st
theorem SameG.refl(st:BK):SameG st st:=⟨rfl,rfl,rfl,rfl⟩
theorem SameG.set(h:SameG st st')(g:Nat):SameG st (aPB st' g):=⟨h.kind,h.arr,h.pend,h.failed⟩
structure MPre(r:AH->Nat)(a₀ a b:Array AH):Prop where
 a1:1<=a.size
 b1:1<=b.size
 asa:AscR r a 0 a.size
 asb:AscR r b 0 b.size
 ma:∀x∈a.toList,x∈a₀.toList
 mb:∀x∈b.toList,x∈a₀.toList
 ne:∀i j,i<a.size->j<b.size->rkA r a i≠rkA r b j
 first:rkA r b 0<rkA r a 0
 last:rkA r b (b.size-1)<rkA r a (a.size-1)
theorem AscR.le0{xs:Array AH}{i j:Nat}(a:AscR r xs 0 n)(hij:i<=j)(hj:j<n):rkA r xs i<=rkA r xs j:=by
 by_cases e:i=j
 ·rw[e];exact aJ _
 ·exact dA (a _ _ (by omega) (by omega)<|by omega)
noncomputable abbrev SM:=StateT BK Sem
noncomputable abbrev ML1:=Option (Array AH)×Array AH×Nat×Nat×Nat×Nat
noncomputable abbrev ML2:=Option (Array AH)×Array AH×Nat×Nat×Nat×Nat×Nat
noncomputable abbrev ML0:=Option (Array AH)×Array AH×Nat×Nat×Nat
noncomputable def dnA(a b out:Array AH)(ia ib:Nat):Array AH:=out++a.extract ia a.size++b.extract ib b.size
noncomputable def lsA(a b out:Array AH)(ia ib:Nat):Array AH:=out++b.extract ib b.size++a.extract ia a.size
noncomputable def lo1(a b:Array AH)(mg:Nat)(c:ML1):SM (ForInStep ML1):=do
 let y <-elem' b c.2.2.2.1
 let x <-elem' a c.2.2.1
 let q <-lt' y x
 match q with
 |some bw=>
  if bw=true then do
   let y <-elem' b c.2.2.2.1
   if(c.2.2.2.1+1==b.size)=true then pure (.done (some (dnA a b (c.2.1.push y) c.2.2.1<|c.2.2.2.1+1),c.2.1.push y,c.2.2.1,c.2.2.2.1+1,0,c.2.2.2.2.2+1))
   else if c.2.2.2.2.2+1>=mg then pure (.done (none,c.2.1.push y,c.2.2.1,c.2.2.2.1+1,0,c.2.2.2.2.2+1))
   else pure (.yield (none,c.2.1.push y,c.2.2.1,c.2.2.2.1+1,0,c.2.2.2.2.2+1))
  else do
   let x <-elem' a c.2.2.1
   if(c.2.2.1+1+1==a.size)=true then pure (.done (some<|lsA a b (c.2.1.push x) (c.2.2.1+1) c.2.2.2.1,c.2.1.push x,c.2.2.1+1,c.2.2.2.1,c.2.2.2.2.1+1,0))
   else if c.2.2.2.2.1+1>=mg then pure (.done (none,c.2.1.push x,c.2.2.1+1,c.2.2.2.1,c.2.2.2.2.1+1,0))
   else pure (.yield (none,c.2.1.push x,c.2.2.1+1,c.2.2.2.1,c.2.2.2.2.1+1,0))
 |_=>pure<|.done (some<|dnA a b c.2.1 c.2.2.1 c.2.2.2.1,c.2.1,c.2.2.1,c.2.2.2.1,c.2.2.2.2.1,c.2.2.2.2.2)
noncomputable def aNK(a b out:Array AH)(ia ib mg k k1:Nat):SM (ForInStep ML2):=do
 let x <-elem' a ia
 if(ia+1+1==a.size)=true then pure (.done (some<|lsA a b (out.push x) (ia+1) ib,out.push x,ia+1,ib,mg,k,k1))
 else if(decide (k<7)&&decide (k1<7))=true then pure (.done (none,out.push x,ia+1,ib,mg,k,k1))
 else pure (.yield (none,out.push x,ia+1,ib,mg,k,k1))
noncomputable def aNG(a b out:Array AH)(ia ib mg k bc:Nat):SM (ForInStep ML2):=do
 let y <-elem' b ib
 if(ib+1==b.size)=true then pure (.done (some (dnA a b (out.push y) ia<|ib+1),out.push y,ia,ib+1,mg,k,bc))
 else do
  let x <-elem' a ia
  let q <-lP true x b (ib+1) (b.size-(ib+1)) 0
  match q with
  |some k1=>
   if k1>0 then
    if(ib+1+k1==b.size)=true then pure (.done (some (dnA a b (out.push y++b.extract (ib+1) (ib+1+k1)) ia<|ib+1+k1),out.push y++b.extract (ib+1) (ib+1+k1),ia,ib+1+k1,mg,k,k1))
    else aNK a b (out.push y++b.extract (ib+1) (ib+1+k1)) ia (ib+1+k1) mg k k1
   else aNK a b (out.push y) ia (ib+1) mg k k1
  |_=>pure<|.done (some (dnA a b (out.push y) ia<|ib+1),out.push y,ia,ib+1,mg,k,bc)
noncomputable def aLv(a b out:Array AH)(ia ib mg ac bc:Nat):SM (ForInStep ML2):=do
 iR mg
 let y <-elem' b ib
 let q <-lP false y a ia (a.size-ia) 0
 match q with
 |some k=>
  if k>0 then
   if(ia+k+1==a.size)=true then pure (.done (some<|lsA a b (out++a.extract ia (ia+k)) (ia+k) ib,out++a.extract ia (ia+k),ia+k,ib,mg,k,bc))
   else if(ia+k==a.size)=true then pure (.done (some<|dnA a b (out++a.extract ia (ia+k)) (ia+k) ib,out++a.extract ia (ia+k),ia+k,ib,mg,k,bc))
   else aNG a b (out++a.extract ia (ia+k)) (ia+k) ib mg k bc
  else aNG a b out ia ib mg k bc
 |_=>pure<|.done (some<|dnA a b out ia ib,out,ia,ib,mg,ac,bc)
noncomputable def lo2(a b:Array AH)(c:ML2):SM (ForInStep ML2):=
 if c.2.2.2.2.1>1 then aLv a b c.2.1 c.2.2.1 c.2.2.2.1 (c.2.2.2.2.1-1) c.2.2.2.2.2.1 c.2.2.2.2.2.2
 else aLv a b c.2.1 c.2.2.1 c.2.2.2.1 c.2.2.2.2.1 c.2.2.2.2.2.1 c.2.2.2.2.2.2
noncomputable def lo0(a b:Array AH)(c:ML0):SM (ForInStep ML0):=do
 let d <-forIn [:a.size+b.size] ((none,c.2.1,c.2.2.1,c.2.2.2.1,0,0):ML1) λ_ d=>lo1 a b c.2.2.2.2 d
 match d.1 with
 |some r=>pure<|.done (some r,d.2.1,d.2.2.1,d.2.2.2.1,c.2.2.2.2)
 |none=>do
  liftM (rule "list.sort.gallop")
  let e <-forIn [:a.size+b.size] ((none,d.2.1,d.2.2.1,d.2.2.2.1,c.2.2.2.2+1,d.2.2.2.2.1,d.2.2.2.2.2):ML2) λ_ e=>lo2 a b e
  match e.1 with
  |some r=>pure<|.done (some r,e.2.1,e.2.2.1,e.2.2.2.1,e.2.2.2.2.1)
  |none=>do
   iR (e.2.2.2.2.1+1)
   pure (.yield (none,e.2.1,e.2.2.1,e.2.2.2.1,e.2.2.2.2.1+1))
noncomputable def loM(a b:Array AH):SM (Array AH):=do
 liftM (rule "list.sort.merge-lo")
 let y <-elem' b 0
 if(1==b.size)=true then pure (dnA a b #[y] 0 1)
 else if(0+1==a.size)=true then pure (lsA a b #[y] 0 1)
 else do
  let g <-get
  let c <-forIn [:a.size+b.size] ((none, #[y],0,1,gallopOf g):ML0) λ_ c=>lo0 a b c
  match c.1 with
  |some r=>pure r
  |none=>liftM (unsupported "internal:list.sort.merge-bound":Sem (Array AH))
theorem aML(a b:Array AH):vG a b=loM a b:=by kernel_rfl
def FIN(r:AH->Nat)(a b:Array AH)(o:Option (Array AH)):Prop:=∃res,o=some res/\MD r a b res.toList
def OKm(r:AH->Nat)(a b:Array AH)(N:Nat)(o:Option (Array AH))(out:Array AH)(ia ib:Nat):Prop:=o=none/\MS r a b out.toList ia ib/\ia+1<a.size/\ib<b.size/\N<=ia+ib
theorem OKm.mono{N N':Nat}{o:Option (Array AH)}{out:Array AH}(h:OKm r a b N o out ia ib)(le:N'<=N):OKm r a b N' o out ia ib:=⟨h.1,h.2.1,h.2.2.1,h.2.2.2.1,cD le h.2.2.2.2⟩
section
variable {prog:AE}{w:AL}{A:BG}{E:BD->BE->Prop}{s:BE}{κ:Ar}{r:AH->Nat}{a₀ a b out:Array AH}{st st0:BK}{ia ib:Nat}
theorem MPre.last'(M:MPre r a₀ a b):∀j,j<b.size->rkA r b j<rkA r a (a.size-1):=λj hj=>cN (M.asb.le0 (by omega)<|by omega) M.last
theorem zX(M:MPre r a₀ a b)(m:MS r a b out.toList ia ib)(h:ib=b.size):FIN r a b (some<|dnA a b out ia ib):=by subst h;refine⟨_,rfl, ?_⟩;have:=m.finA M.asa;unfold dnA;rw[cX,cX,aJO _<|aJ _,bG];exact this
theorem aAK(M:MPre r a₀ a b)(m:MS r a b out.toList ia ib)(h:ia+1=a.size):FIN r a b (some<|lsA a b out ia ib):=by refine⟨_,rfl, ?_⟩;have:=m.finL M.asa M.asb h M.last';unfold lsA;rw[cX,cX];exact this
theorem MS.pushA'(M:MPre r a₀ a b)(m:MS r a b out.toList ia ib)(h:ia<a.size)(hb:∀j,ib<=j->j<b.size->rkA r a ia<rkA r b j):MS r a b (out.push a[ia]).toList (ia+1) ib:=by rw[jN];exact m.pushA h M.asa hb
theorem MS.pushB'(M:MPre r a₀ a b)(m:MS r a b out.toList ia ib)(h:ib<b.size)(hb:∀j,ia<=j->j<a.size->rkA r b ib<rkA r a j):MS r a b (out.push b[ib]).toList ia (ib+1):=by rw[jN];exact m.pushB h M.asb hb
theorem MS.extA'(M:MPre r a₀ a b)(m:MS r a b out.toList ia ib){k:Nat}(h:ia+k<=a.size)(hb:∀i,i<k->∀j,ib<=j->j<b.size->rkA r a (ia+i)<rkA r b j):MS r a b (out++a.extract ia (ia+k)).toList (ia+k) ib:=by rw[cX];exact m.extA M.asa k h hb
theorem MS.extB'(M:MPre r a₀ a b)(m:MS r a b out.toList ia ib){k:Nat}(h:ib+k<=b.size)(hb:∀i,i<k->∀j,ia<=j->j<a.size->rkA r b (ib+i)<rkA r a j):MS r a b (out++b.extract ib (ib+k)).toList ia (ib+k):=by rw[cX];exact m.extB M.asb k h hb
def P2(r:AH->Nat)(a b:Array AH)(st0:BK)(N:Nat):ForInStep ML2->BK->Prop:=λq st'=>SameG st0 st'/\match q with
 |.done c=>FIN r a b c.1\/OKm r a b N c.1 c.2.1 c.2.2.1 c.2.2.2.1
 |.yield c=>OKm r a b N c.1 c.2.1 c.2.2.1 c.2.2.2.1
theorem aEi{N mg k k1:Nat}(M:MPre r a₀ a b)(S:SameG st0 st)(m:MS r a b out.toList ia ib)(h1:ia+1<a.size)(h2:ib<b.size)(hN:N<=ia+1+ib)(hb:∀j,ib<=j->j<b.size->rkA r a ia<rkA r b j):wpS (AG prog w) A E s (aNK a b out ia ib mg k k1) (P2 r a b st0 N) st:=by
 unfold aNK;refine AF<|dL (by omega) ?_;have m2:=m.pushA' M (by omega) hb
 by_cases e:ia+1+1=a.size
 ·rw[if_pos<|by simpa using e];exact AI ⟨S,.inl<|aAK M m2 e⟩
 ·rw[if_neg<|by simpa using e]
  split
  ·exact AI ⟨S,.inr ⟨rfl,m2,by show ia+1+1<_;omega,h2,hN⟩⟩
  ·exact AI ⟨S,rfl,m2,by show ia+1+1<_;omega,h2,hN⟩
theorem aEk{N mg k bc:Nat}(K:kK prog w A E s κ r a₀)(hk:kindOf st0=κ)(M:MPre r a₀ a b)(S:SameG st0 st)(m:MS r a b out.toList ia ib)(h1:ia+1<a.size)(h2:ib<b.size)(hN:N<=ia+1+ib)(hb:∀j,ia<=j->j<a.size->rkA r b ib<rkA r a j):wpS (AG prog w) A E s (aNG a b out ia ib mg k bc) (P2 r a b st0 N) st:=by
 unfold aNG;refine AF<|dL (by omega) ?_;have m2:=m.pushB' M h2 hb
 by_cases e:ib+1=b.size
 ·rw[if_pos<|by simpa using e];exact AI ⟨S,.inl<|zX M m2 e⟩
 ·rw[if_neg<|by simpa using e];have h1':ia<a.size:=by omega
  refine AF<|dL h1' (AF<|oV K (S.kind.trans hk) M.mb (M.ma _<|by simp) (by omega) (by omega) (λi j h1 h2 h3=>M.asb i j (by omega) h2<|by omega) (λi hi e=>M.ne ia (ib+1+i) h1' (by omega)<|by rw[e,dG h1']) λk1 c1 c2 c3=> ?_);dsimp only;rw[<-dG (r:=r) h1'] at c2 c3;have m3:=m2.extB' M (k:=k1) (by omega) λi hi j j1 j2=>aS (c2 i hi)<|M.asa.le0 j1 j2
  have c3':∀j,ib+1+k1<=j->j<b.size->rkA r a ia<rkA r b j:=λj j1 j2=>by
   have:=c3 (j-(ib+1)) (by omega)<|by omega
   rwa[show ib+1+(j-(ib+1))=j by omega] at this
  by_cases z:k1>0
  ·rw[if_pos z]
   by_cases y:ib+1+k1=b.size
   ·rw[if_pos<|by simpa using y];exact AI ⟨S,.inl<|zX M m3 y⟩
   ·rw[if_neg<|by simpa using y];exact aEi M S m3 h1 (by omega) (by omega) c3'
  ·rw[if_neg z];have z0:k1=0:=by omega
   subst z0;exact aEi M S m2 h1 (by omega) (by omega) c3'
theorem aJs{N mg ac bc:Nat}(K:kK prog w A E s κ r a₀)(hk:kindOf st0=κ)(M:MPre r a₀ a b)(S:SameG st0 st)(m:MS r a b out.toList ia ib)(h1:ia+1<a.size)(h2:ib<b.size)(hN:N<=ia+1+ib):wpS (AG prog w) A E s (aLv a b out ia ib mg ac bc) (P2 r a b st0 N) st:=by
 unfold aLv;rw[iC];refine AF<|At ?_;have S:=S.set mg;refine AF<|dL h2 (AF<|oV K (S.kind.trans hk) M.ma (M.mb _<|by simp) (by omega) (by omega) (λi j h1 h2 h3=>M.asa i j (by omega) h2<|by omega) (λi hi e=>M.ne (ia+i) ib (by omega) h2<|by rw[e,dG h2]) λk c1 c2 c3=> ?_);dsimp only;rw[<-dG (r:=r) h2] at c2 c3;have m3:=m.extA' M (k:=k) (by omega) λi hi j j1 j2=>aS (c2 i hi)<|M.asb.le0 j1 j2
 have c3':∀j,ia+k<=j->j<a.size->rkA r b ib<rkA r a j:=λj j1 j2=>by
  have:=c3 (j-ia) (by omega)<|by omega
  rwa[show ia+(j-ia)=j by omega] at this
 have kl:ia+k<a.size:=by
  by_cases q:ia+k<a.size
  ·exact q
  ·have:=c2 (a.size-1-ia) (by omega);rw[show ia+(a.size-1-ia)=a.size-1 by omega] at this;have:=M.last' ib h2;omega
 by_cases z:k>0
 ·rw[if_pos z]
  by_cases y:ia+k+1=a.size
  ·rw[if_pos<|by simpa using y];exact AI ⟨S,.inl<|aAK M m3 y⟩
  ·rw[if_neg (by simpa using y),if_neg<|by simp;omega];exact aEk K hk M S m3 (by omega) h2 (by omega) c3'
 ·rw[if_neg z];have z0:k=0:=by omega
  subst z0;exact aEk K hk M S m (by omega) h2 (by omega) c3'
def P1(r:AH->Nat)(a b:Array AH)(st:BK)(N:Nat):ForInStep ML1->BK->Prop:=λq st'=>st'=st/\match q with
 |.done c=>FIN r a b c.1\/OKm r a b N c.1 c.2.1 c.2.2.1 c.2.2.2.1
 |.yield c=>OKm r a b N c.1 c.2.1 c.2.2.1 c.2.2.2.1
theorem aMP{N mg:Nat}{c:ML1}(K:kK prog w A E s κ r a₀)(hk:kindOf st=κ)(M:MPre r a₀ a b)(h:OKm r a b N c.1 c.2.1 c.2.2.1 c.2.2.2.1):wpS (AG prog w) A E s (lo1 a b mg c) (P1 r a b st<|N+1) st:=by
 obtain⟨o,out,ia,ib,ac,bc⟩:=c;obtain⟨h0,m,h1,h2,hN⟩:=h;dsimp only at h0 m h1 h2 hN;unfold lo1;dsimp only;have h1':ia<a.size:=by omega
 refine AF<|dL h2 (AF<|dL h1' (AF<|K.ask (M.mb _<|by simp) (M.ma _<|by simp) hk ?_));dsimp only
 by_cases q:r b[ib]<r a[ia]
 ·rw[if_pos<|by simpa using q];refine AF<|dL h2 ?_;have q':rkA r b ib<rkA r a ia:=by rw[dG h2,dG h1'];exact q
  have m2:=m.pushB' M h2 λj j1 j2=>aS q'<|M.asa.le0 j1 j2
  by_cases e:ib+1=b.size
  ·rw[if_pos<|by simpa using e];exact AI ⟨rfl,.inl<|zX M m2 e⟩
  ·rw[if_neg<|by simpa using e]
   split
   ·exact AI ⟨rfl,.inr ⟨rfl,m2,h1,by show ib+1<_;omega,by show _<=ia+(ib+1);omega⟩⟩
   ·exact AI ⟨rfl,rfl,m2,h1,by show ib+1<_;omega,by show _<=ia+(ib+1);omega⟩
 ·rw[if_neg<|by simpa using q];refine AF (dL h1' ?_)
  have q':rkA r a ia<rkA r b ib:=by have:=M.ne ia ib h1' h2;rw[dG h1',dG h2] at this ⊢;omega
  have m2:=m.pushA' M h1' λj j1 j2=>aS q'<|M.asb.le0 j1 j2
  by_cases e:ia+1+1=a.size
  ·rw[if_pos<|by simpa using e];exact AI ⟨rfl,.inl<|aAK M m2 e⟩
  ·rw[if_neg<|by simpa using e]
   split
   ·exact AI ⟨rfl,.inr ⟨rfl,m2,by show ia+1+1<_;omega,h2,by show _<=ia+1+ib;omega⟩⟩
   ·exact AI ⟨rfl,rfl,m2,by show ia+1+1<_;omega,h2,by show _<=ia+1+ib;omega⟩
def P0(r:AH->Nat)(a b:Array AH)(st0:BK)(N:Nat):ForInStep ML0->BK->Prop:=λq st'=>SameG st0 st'/\match q with
 |.done c=>FIN r a b c.1
 |.yield c=>OKm r a b N c.1 c.2.1 c.2.2.1 c.2.2.2.1
theorem aMs{N:Nat}{c:ML0}(K:kK prog w A E s κ r a₀)(hk:kindOf st0=κ)(M:MPre r a₀ a b)(S:SameG st0 st)(h:OKm r a b N c.1 c.2.1 c.2.2.1 c.2.2.2.1):wpS (AG prog w) A E s (lo0 a b c) (P0 r a b st0<|N+1) st:=by
 obtain⟨o,out,ia,ib,mg⟩:=c;obtain⟨h0,m,h1,h2,hN⟩:=h;dsimp only at h0 m h1 h2 hN;unfold lo0;dsimp only;refine AF<|Ab (AT (I:=λx d st'=>st'=st/\OKm r a b (N+x) d.1 d.2.1 d.2.2.1 d.2.2.2.1) (Q:=λd st'=>st'=st/\(FIN r a b d.1\/OKm r a b (N+1) d.1 d.2.1 d.2.2.1 d.2.2.2.1)) ?step ?fin ⟨rfl,rfl,m,h1,h2,hN⟩) ?post
 case step=>
  rintro x d st' _ hx ⟨rfl,hd⟩;refine Ab (aMP K (S.kind.trans hk) M hd) λq st'' hq=> ?_
  obtain⟨rfl,hq⟩:=hq;cases q with
  |done d=>exact⟨rfl,hq.imp id λz=>z.mono<|by omega⟩
  |yield d=>exact⟨rfl,hq⟩
 case fin=>rintro d st' ⟨rfl,_,_,h3,h4,h5⟩;omega
 case post=>
  rintro d st' ⟨rfl,hd⟩;obtain⟨o1,out,ia,ib,ac,bc⟩:=d
  rcases hd with⟨res,e,hres⟩|⟨e,m,h1,h2,hN⟩
  ·dsimp only at e;subst e;exact AI ⟨S,res,rfl,hres⟩
  ·dsimp only at e m h1 h2 hN;subst e;dsimp only;refine AF (wpS_lift<|BB ⟨rfl, ?_⟩);refine AF (Ab (AT (I:=λx d st'=>SameG st0 st'/\OKm r a b (N+1+x) d.1 d.2.1 d.2.2.1 d.2.2.2.1) (Q:=λd st'=>SameG st0 st'/\(FIN r a b d.1\/OKm r a b (N+1) d.1 d.2.1 d.2.2.1 d.2.2.2.1)) ?step2 ?fin2 ⟨S,rfl,m,h1,h2,hN⟩) ?post2)
   case step2=>
    rintro x ⟨o2,out,ia,ib,mg,ac,bc⟩ st' _ hx ⟨S,_,m,h1,h2,hN⟩;dsimp only at m h1 h2 hN;have key:∀mg,wpS (AG prog w) A E s (aLv a b out ia ib mg ac bc) (P2 r a b st0<|N+1+(x+1)) st':=λmg=>aJs K hk M S m h1 h2<|by omega
    unfold lo2;dsimp only
    split<;>
    ·refine Ab (key _) λq st'' hq=> ?_
     obtain⟨S',hq⟩:=hq;cases q with
     |done d=>exact⟨S',hq.imp id λz=>z.mono<|by omega⟩
     |yield d=>exact⟨S',hq⟩
   case fin2=>rintro d st' ⟨_,_,_,h3,h4,h5⟩;omega
   case post2=>
    rintro⟨o2,out,ia,ib,mg,ac,bc⟩ st' ⟨S,hd⟩
    rcases hd with⟨res,e,hres⟩|⟨e,m,h1,h2,hN⟩
    ·dsimp only at e;subst e;exact AI ⟨S,res,rfl,hres⟩
    ·dsimp only at e m h1 h2 hN;subst e;dsimp only;rw[iC];exact AF (At<|AI ⟨S.set _,rfl,m,h1,h2,hN⟩)
theorem aAB{Q:Array AH->BK->Prop}(K:kK prog w A E s κ r a₀)(hk:kindOf st=κ)(M:MPre r a₀ a b)
  (h:∀out st',MD r a b out.toList->SameG st st'->Q out st'):wpS (AG prog w) A E s (vG a b) Q st:=by
 rw[aML];unfold loM;refine AF (wpS_lift<|BB ⟨rfl, ?_⟩);have b1:=M.b1;have a1:=M.a1;refine AF<|dL (by omega) ?_;have m0:MS r a b (#[]:Array AH).toList 0 0:=⟨by omega,by omega,by simp,by simp,λx hx=>by simp at hx,λx hx=>by simp at hx⟩;have m:MS r a b (#[b[0]]:Array AH).toList 0 1:=m0.pushB' M (by omega) λj j1 j2=>aS M.first<|M.asa.le0 j1 j2
 by_cases e:1=b.size
 ·rw[if_pos<|by simpa using e];obtain⟨res,e2,hr⟩:=zX M m e;cases e2;exact AI (h _ _ hr<|.refl _)
 ·rw[if_neg<|by simpa using e]
  by_cases e1:0+1=a.size
  ·rw[if_pos<|by simpa using e1];obtain⟨res,e2,hr⟩:=aAK M m e1;cases e2;exact AI (h _ _ hr<|.refl _)
  ·rw[if_neg<|by simpa using e1];refine AF (wpS_get (AF<|Ab (AT (I:=λx d st'=>SameG st st'/\OKm r a b (x+1) d.1 d.2.1 d.2.2.1 d.2.2.2.1) (Q:=λd st'=>SameG st st'/\FIN r a b d.1) ?step ?fin ⟨.refl _,rfl,m,by show 0+1<_;omega,by show 1<_;omega,aJ _⟩) ?post))
   case step=>
    rintro x d st' _ hx ⟨S,hd⟩;refine Ab (aMs K hk M S hd) λq st'' hq=> ?_
    obtain⟨S',hq⟩:=hq;cases q with
    |done d=>exact⟨S',hq⟩
    |yield d=>exact⟨S',hq⟩
   case fin=>rintro d st' ⟨_,_,_,h3,h4,h5⟩;omega
   case post=>rintro d st' ⟨S,res,e,hr⟩;rw[e];exact AI<|h _ _ hr S
end
structure HS(r:AH->Nat)(a b:Array AH)(out:List AH)(na nb:Nat):Prop where
 ha:na<=a.size
 hb:nb<=b.size
 perm:out.Perm (a.toList.drop na++b.toList.drop nb)
 dsc:(out.map r).Pairwise (λx y=>y<x)
 la:∀x∈out,∀i,i<na->rkA r a i<r x
 lb:∀x∈out,∀i,i<nb->rkA r b i<r x
variable {na nb:Nat}
theorem HS.swap(m:HS r a b out na nb):HS r b a out nb na:=⟨m.hb,m.ha,m.perm.trans gS,m.dsc,m.lb,m.la⟩
theorem HS.pushA(m:HS r a b out (na+1) nb)(asa:AscR r a 0 a.size)(hb:∀j,j<nb->rkA r b j<rkA r a na):HS r a b (out++[a[na]'m.ha]) na nb:=by
 have h:na<a.size:=m.ha;refine⟨dA h,m.hb, ?_, ?_,λx hx i h1=> ?_,λx hx i h1=> ?_⟩
 ·have e:a.toList.drop na=a[na]::a.toList.drop (na+1):=by rw[dY<|by simpa using h];simp
  rw[e,List.cons_append];exact(gS).trans<|List.Perm.cons _ m.perm
 ·rw[bK,pH];refine⟨m.dsc,jK _ _,λx hx y hy=> ?_⟩;obtain⟨z,hz,rfl⟩:=aQ.mp hx;have:y=r a[na]:=by simpa using hy
  rw[this,<-dG (r:=r) h];exact m.la z hz na<|gG _
 ·rcases aU.mp hx with hx|hx
  ·exact m.la x hx i<|by omega
  ·rw[aH.mp hx,<-dG (r:=r) h];exact asa i na (cQ _) h1 h
 ·rcases aU.mp hx with hx|hx
  ·exact m.lb x hx i h1
  ·rw[aH.mp hx,<-dG (r:=r) h];exact hb i h1
theorem aGq(h:k+1<=na)(h2:na<=a.size):(a.extract (na-(k+1)) na).toList.reverse=(a.extract (na-k) na).toList.reverse++[a[na-(k+1)]'(by omega)]:=by
 simp only[dF,cR]
 have e:a.toList.drop (na-(k+1))=a[na-(k+1)]'(by omega)::a.toList.drop (na-k):=by rw[dY<|by simp;omega];rw[show na-(k+1)+1=na-k by omega];simp
 rw[e,show na-(na-(k+1))=(na-(na-k))+1 by omega,aFA,List.reverse_cons]
theorem HS.extA(asa:AscR r a 0 a.size)(m:HS r a b out na nb):∀k,k<=na->(∀i,na-k<=i->i<na->∀j,j<nb->rkA r b j<rkA r a i)->HS r a b (out++(a.extract (na-k) na).toList.reverse) (na-k) nb
 |0,_,_=>by
  have e:(a.extract (na-0) na).toList.reverse=[]:=by simp[dF,cR]
  rw[e,bG];exact m
 |k+1,h,hb=>by
  have ih:=HS.extA asa m k (by omega) λi h1 h2=>hb i (by omega) h2
  rw[aGq h m.ha,<-dI];have e:na-k=na-(k+1)+1:=by omega
  rw[e] at ih;have:=ih.pushA asa (hb (na-(k+1)) (aJ _)<|by omega);rw[show a.extract (na-k) na=a.extract (na-(k+1)+1) na by rw[e]];exact this
theorem HS.extB(asb:AscR r b 0 b.size)(m:HS r a b out na nb)(k:Nat)(h:k<=nb)(hb:∀i,nb-k<=i->i<nb->∀j,j<na->rkA r a j<rkA r b i):HS r a b (out++(b.extract (nb-k) nb).toList.reverse) na (nb-k):=(m.swap.extA asb k h hb).swap
theorem HS.done(m:HS r a b out 0 0):MD r a b out.reverse:=by
 refine⟨(List.reverse_perm _).trans ?_, ?_⟩
 ·have:=m.perm;simpa using this
 ·rw[List.map_reverse,List.pairwise_reverse];exact m.dsc
theorem HS.finB(m:HS r a b out 0 nb)(asb:AscR r b 0 b.size):MD r a b ((b.extract 0 nb).toList++out.reverse):=by
 have:=m.extB asb nb (aJ _) λi h1 h2 j hj=>by omega
 rw[sV] at this;have:=this.done
 rwa[aFC,aFx] at this
theorem HS.finL(m:HS r a b out na 1)(asa:AscR r a 0 a.size)(asb:AscR r b 0 b.size)(first:∀i,i<a.size->rkA r b 0<rkA r a i):MD r a b ((b.extract 0 1).toList++(a.extract 0 na).toList++out.reverse):=by
 have ha:=m.ha
 have:=m.extA asa na (aJ _) λi h1 h2 j hj=>by
  have:j=0:=by omega
  subst this;exact first i<|by omega
 rw[sV] at this;have:=this.finB asb
 rwa[aFC,aFx,<-dI] at this
noncomputable def uF:Array AH->Array AH->StateT BK Sem (Array AH):=sortPriv%PySem.Builtin.mergeHi
noncomputable abbrev MH1:=Option (Array AH)×Nat×Nat×Array AH×Nat×Nat
noncomputable abbrev MH2:=Option (Array AH)×Nat×Nat×Array AH×Nat×Nat×Nat
noncomputable abbrev MH0:=Option (Array AH)×Nat×Nat×Array AH×Nat
noncomputable def dnH(a b out:Array AH)(na nb:Nat):Array AH:=a.extract 0 na++b.extract 0 nb++out.reverse
noncomputable def fsB(a b out:Array AH)(na nb:Nat):Array AH:=b.extract 0 nb++a.extract 0 na++out.reverse
noncomputable def hi1(a b:Array AH)(mg:Nat)(c:MH1):SM (ForInStep MH1):=do
 let y <-elem' b (c.2.2.1-1)
 let x <-elem' a (c.2.1-1)
 let q <-lt' y x
 match q with
 |some aw=>
  if aw=true then do
   let x <-elem' a (c.2.1-1)
   if(c.2.1-1==0)=true then pure (.done (some<|dnH a b (c.2.2.2.1.push x) (c.2.1-1) c.2.2.1,c.2.1-1,c.2.2.1,c.2.2.2.1.push x,c.2.2.2.2.1+1,0))
   else if c.2.2.2.2.1+1>=mg then pure (.done (none,c.2.1-1,c.2.2.1,c.2.2.2.1.push x,c.2.2.2.2.1+1,0))
   else pure (.yield (none,c.2.1-1,c.2.2.1,c.2.2.2.1.push x,c.2.2.2.2.1+1,0))
  else do
   let y <-elem' b (c.2.2.1-1)
   if(c.2.2.1-1==1)=true then pure (.done (some (fsB a b (c.2.2.2.1.push y) c.2.1<|c.2.2.1-1),c.2.1,c.2.2.1-1,c.2.2.2.1.push y,0,c.2.2.2.2.2+1))
   else if c.2.2.2.2.2+1>=mg then pure (.done (none,c.2.1,c.2.2.1-1,c.2.2.2.1.push y,0,c.2.2.2.2.2+1))
   else pure (.yield (none,c.2.1,c.2.2.1-1,c.2.2.2.1.push y,0,c.2.2.2.2.2+1))
 |_=>pure<|.done (some<|dnH a b c.2.2.2.1 c.2.1 c.2.2.1,c.2.1,c.2.2.1,c.2.2.2.1,c.2.2.2.2.1,c.2.2.2.2.2)
noncomputable def aNF(a b out:Array AH)(na nb mg k k1:Nat):SM (ForInStep MH2):=do
 let x <-elem' a (na-1)
 if(na-1==0)=true then pure (.done (some<|dnH a b (out.push x) (na-1) nb,na-1,nb,out.push x,mg,k,k1))
 else if(decide (k<7)&&decide (k1<7))=true then pure (.done (none,na-1,nb,out.push x,mg,k,k1))
 else pure (.yield (none,na-1,nb,out.push x,mg,k,k1))
noncomputable def aNM(a b out:Array AH)(na nb mg k bc:Nat):SM (ForInStep MH2):=do
 let y <-elem' b (nb-1)
 if(nb-1==1)=true then pure (.done (some (fsB a b (out.push y) na<|nb-1),na,nb-1,out.push y,mg,k,bc))
 else do
  let x <-elem' a (na-1)
  let q <-lP true x b 0 (nb-1) (nb-1-1)
  match q with
  |some at_=>
   if nb-1-at_>0 then
    if(at_==1)=true then pure (.done (some<|fsB a b (out.push y++(b.extract at_<|nb-1).reverse) na at_,na,at_,out.push y++(b.extract at_<|nb-1).reverse,mg,k,nb-1-at_))
    else if(at_==0)=true then pure (.done (some<|dnH a b (out.push y++(b.extract at_<|nb-1).reverse) na at_,na,at_,out.push y++(b.extract at_<|nb-1).reverse,mg,k,nb-1-at_))
    else aNF a b (out.push y++(b.extract at_<|nb-1).reverse) na at_ mg k (nb-1-at_)
   else aNF a b (out.push y) na (nb-1) mg k (nb-1-at_)
  |_=>pure<|.done (some (dnH a b (out.push y) na<|nb-1),na,nb-1,out.push y,mg,k,bc)
noncomputable def aLs(a b out:Array AH)(na nb mg ac bc:Nat):SM (ForInStep MH2):=do
 iR mg
 let y <-elem' b (nb-1)
 let q <-lP false y a 0 na (na-1)
 match q with
 |some at_=>
  if na-at_>0 then
   if(at_==0)=true then pure (.done (some<|dnH a b (out++(a.extract at_ na).reverse) at_ nb,at_,nb,out++(a.extract at_ na).reverse,mg,na-at_,bc))
   else aNM a b (out++(a.extract at_ na).reverse) at_ nb mg (na-at_) bc
  else aNM a b out na nb mg (na-at_) bc
 |_=>pure<|.done (some<|dnH a b out na nb,na,nb,out,mg,ac,bc)
noncomputable def hi2(a b:Array AH)(c:MH2):SM (ForInStep MH2):=
 if c.2.2.2.2.1>1 then aLs a b c.2.2.2.1 c.2.1 c.2.2.1 (c.2.2.2.2.1-1) c.2.2.2.2.2.1 c.2.2.2.2.2.2
 else aLs a b c.2.2.2.1 c.2.1 c.2.2.1 c.2.2.2.2.1 c.2.2.2.2.2.1 c.2.2.2.2.2.2
noncomputable def hi0(a b:Array AH)(c:MH0):SM (ForInStep MH0):=do
 let d <-forIn [:a.size+b.size] ((none,c.2.1,c.2.2.1,c.2.2.2.1,0,0):MH1) λ_ d=>hi1 a b c.2.2.2.2 d
 match d.1 with
 |some r=>pure<|.done (some r,d.2.1,d.2.2.1,d.2.2.2.1,c.2.2.2.2)
 |none=>do
  liftM (rule "list.sort.gallop")
  let e <-forIn [:a.size+b.size] ((none,d.2.1,d.2.2.1,d.2.2.2.1,c.2.2.2.2+1,d.2.2.2.2.1,d.2.2.2.2.2):MH2) λ_ e=>hi2 a b e
  match e.1 with
  |some r=>pure<|.done (some r,e.2.1,e.2.2.1,e.2.2.2.1,e.2.2.2.2.1)
  |none=>do
   iR (e.2.2.2.2.1+1)
   pure (.yield (none,e.2.1,e.2.2.1,e.2.2.2.1,e.2.2.2.2.1+1))
noncomputable def hiM(a b:Array AH):SM (Array AH):=do
 liftM (rule "list.sort.merge-hi")
 let x <-elem' a (a.size-1)
 if(a.size-1==0)=true then pure (dnH a b #[x] (a.size-1) b.size)
 else if(b.size==1)=true then pure (fsB a b #[x] (a.size-1) b.size)
 else do
  let g <-get
  let c <-forIn [:a.size+b.size] ((none,a.size-1,b.size, #[x],gallopOf g):MH0) λ_ c=>hi0 a b c
  match c.1 with
  |some r=>pure r
  |none=>liftM (unsupported "internal:list.sort.merge-bound":Sem (Array AH))
theorem aNn(a b:Array AH):uF a b=hiM a b:=by kernel_rfl
def OKh(r:AH->Nat)(a b:Array AH)(N:Nat)(o:Option (Array AH))(out:Array AH)(na nb:Nat):Prop:=o=none/\HS r a b out.toList na nb/\1<=na/\2<=nb/\na+nb+N<=a.size+b.size
theorem OKh.mono{N N':Nat}{o:Option (Array AH)}{out:Array AH}(h:OKh r a b N o out na nb)(le:N'<=N):OKh r a b N' o out na nb:=⟨h.1,h.2.1,h.2.2.1,h.2.2.2.1,by have:=h.2.2.2.2;omega⟩
section
variable {prog:AE}{w:AL}{A:BG}{E:BD->BE->Prop}{s:BE}{κ:Ar}{r:AH->Nat}{a₀ a b out:Array AH}{st st0:BK}{na nb:Nat}
theorem MPre.first'(M:MPre r a₀ a b):∀i,i<a.size->rkA r b 0<rkA r a i:=λi hi=>aS M.first<|M.asa.le0 (cQ _) hi
theorem ex0(xs:Array AH):(xs.extract 0 0).toList=[]:=by simp[dF,cR]
theorem aAF(M:MPre r a₀ a b)(m:HS r a b out.toList na nb)(h:na=0):FIN r a b (some<|dnH a b out na nb):=by subst h;refine⟨_,rfl, ?_⟩;have:=m.finB M.asb;unfold dnH;rw[cX,cX,ex0,xA,kH];exact this
theorem aAJ(M:MPre r a₀ a b)(m:HS r a b out.toList na nb)(h:nb=1):FIN r a b (some<|fsB a b out na nb):=by subst h;refine⟨_,rfl, ?_⟩;have:=m.finL M.asa M.asb M.first';unfold fsB;rw[cX,cX,kH];exact this
theorem HS.pushA'(M:MPre r a₀ a b)(m:HS r a b out.toList na nb)(h1:1<=na)(hb:∀j,j<nb->rkA r b j<rkA r a (na-1)):HS r a b (out.push<|a[na-1]'(by have:=m.ha;omega)).toList (na-1) nb:=by
 rw[jN];have e:na=na-1+1:=by omega
 have m':HS r a b out.toList (na-1+1) nb:=by rw[<-e];exact m
 exact m'.pushA M.asa hb
theorem HS.pushB'(M:MPre r a₀ a b)(m:HS r a b out.toList na nb)(h1:1<=nb)(hb:∀j,j<na->rkA r a j<rkA r b (nb-1)):HS r a b (out.push<|b[nb-1]'(by have:=m.hb;omega)).toList na (nb-1):=by
 rw[jN];have e:nb=nb-1+1:=by omega
 have m':HS r a b out.toList na (nb-1+1):=by rw[<-e];exact m
 exact(m'.swap.pushA M.asb hb).swap
theorem HS.extA'(M:MPre r a₀ a b)(m:HS r a b out.toList na nb){t:Nat}(h:t<=na)(hb:∀i,t<=i->i<na->∀j,j<nb->rkA r b j<rkA r a i):HS r a b (out++(a.extract t na).reverse).toList t nb:=by rw[cX,kH];have:=m.extA M.asa (na-t) (by omega) (by rw[show na-(na-t)=t by omega];exact hb);rw[show na-(na-t)=t by omega] at this;exact this
theorem HS.extB'(M:MPre r a₀ a b)(m:HS r a b out.toList na nb){t:Nat}(h:t<=nb)(hb:∀i,t<=i->i<nb->∀j,j<na->rkA r a j<rkA r b i):HS r a b (out++(b.extract t nb).reverse).toList na t:=by rw[cX,kH];have:=m.extB M.asb (nb-t) (by omega) (by rw[show nb-(nb-t)=t by omega];exact hb);rw[show nb-(nb-t)=t by omega] at this;exact this
def H2(r:AH->Nat)(a b:Array AH)(st0:BK)(N:Nat):ForInStep MH2->BK->Prop:=λq st'=>SameG st0 st'/\match q with
 |.done c=>FIN r a b c.1\/OKh r a b N c.1 c.2.2.2.1 c.2.1 c.2.2.1
 |.yield c=>OKh r a b N c.1 c.2.2.2.1 c.2.1 c.2.2.1
theorem aEl{N mg k k1:Nat}(M:MPre r a₀ a b)(S:SameG st0 st)(m:HS r a b out.toList na nb)(h1:1<=na)(h2:2<=nb)(hN:na-1+nb+N<=a.size+b.size)(hb:∀j,j<nb->rkA r b j<rkA r a (na-1)):wpS (AG prog w) A E s (aNF a b out na nb mg k k1) (H2 r a b st0 N) st:=by
 unfold aNF;have ha:=m.ha;refine AF<|dL (by omega) ?_;have m2:=m.pushA' M h1 hb
 by_cases e:na-1=0
 ·rw[if_pos<|by simpa using e];exact AI ⟨S,.inl<|aAF M m2 e⟩
 ·rw[if_neg<|by simpa using e]
  split
  ·exact AI ⟨S,.inr ⟨rfl,m2,by show 1<=na-1;omega,h2,hN⟩⟩
  ·exact AI ⟨S,rfl,m2,by show 1<=na-1;omega,h2,hN⟩
theorem aDY{N mg k bc:Nat}(K:kK prog w A E s κ r a₀)(hk:kindOf st0=κ)(M:MPre r a₀ a b)(S:SameG st0 st)(m:HS r a b out.toList na nb)(h1:1<=na)(h2:2<=nb)(hN:na-1+nb+N<=a.size+b.size)(hb:∀j,j<na->rkA r a j<rkA r b (nb-1)):wpS (AG prog w) A E s (aNM a b out na nb mg k bc) (H2 r a b st0 N) st:=by
 unfold aNM;have ha:=m.ha;have hbb:=m.hb;refine AF<|dL (by omega) ?_;have m2:=m.pushB' M (by omega) hb
 by_cases e:nb-1=1
 ·rw[if_pos<|by simpa using e];exact AI ⟨S,.inl<|aAJ M m2 e⟩
 ·rw[if_neg<|by simpa using e];have h1':na-1<a.size:=by omega
  refine AF<|dL h1' (AF<|oV K (S.kind.trans hk) M.mb (M.ma _<|by simp) (by omega) (by omega) (λi j h1 h2 h3=>M.asb i j (by omega) h2<|by omega) (λi hi e=>M.ne (na-1) i h1' (by omega)<|by rw[oJ] at e;rw[e,dG h1']) λat_ c1 c2 c3=> ?_);dsimp only;simp only[oJ] at c2 c3;rw[<-dG (r:=r) h1'] at c2 c3;have m3:=m2.extB' M (t:=at_) c1 λi i1 i2 j hj=>cN (M.asa.le0 (by omega) h1')<|c3 i i1 i2
  have a0:1<=at_:=by
   by_cases q:at_=0
   ·subst q;have:=c3 0 (aJ _) (by omega);have:=M.first' (na-1) h1';omega
   ·omega
  by_cases z:nb-1-at_>0
  ·rw[if_pos z]
   by_cases y:at_=1
   ·rw[if_pos<|by simpa using y];exact AI ⟨S,.inl<|aAJ M m3 y⟩
   ·rw[if_neg (by simpa using y),if_neg<|by simp;omega];exact aEl M S m3 h1 (by omega) (by omega) c2
  ·rw[if_neg z];have z0:at_=nb-1:=by omega
   subst z0;exact aEl M S m2 h1 (by omega) (by omega) c2
theorem aKi{N mg ac bc:Nat}(K:kK prog w A E s κ r a₀)(hk:kindOf st0=κ)(M:MPre r a₀ a b)(S:SameG st0 st)(m:HS r a b out.toList na nb)(h1:1<=na)(h2:2<=nb)(hN:na-1+nb+N<=a.size+b.size):wpS (AG prog w) A E s (aLs a b out na nb mg ac bc) (H2 r a b st0 N) st:=by
 unfold aLs;have ha:=m.ha;have hbb:=m.hb;rw[iC];refine AF<|At ?_;have S:=S.set mg;have h2':nb-1<b.size:=by omega
 refine AF<|dL h2' (AF<|oV K (S.kind.trans hk) M.ma (M.mb _<|by simp) (by omega) (by omega) (λi j h1 h2 h3=>M.asa i j (by omega) h2<|by omega) (λi hi e=>M.ne i (nb-1) (by omega) h2'<|by rw[oJ] at e;rw[e,dG h2']) λat_ c1 c2 c3=> ?_);dsimp only;simp only[oJ] at c2 c3;rw[<-dG (r:=r) h2'] at c2 c3;have m3:=m.extA' M (t:=at_) c1 λi i1 i2 j hj=>cN (M.asb.le0 (by omega) h2')<|c3 i i1 i2
 by_cases z:na-at_>0
 ·rw[if_pos z]
  by_cases y:at_=0
  ·rw[if_pos<|by simpa using y];exact AI ⟨S,.inl<|aAF M m3 y⟩
  ·rw[if_neg<|by simpa using y];exact aDY K hk M S m3 (by omega) h2 (by omega) c2
 ·rw[if_neg z];have z0:at_=na:=by omega
  subst z0;exact aDY K hk M S m h1 h2 hN c2
def H1(r:AH->Nat)(a b:Array AH)(st:BK)(N:Nat):ForInStep MH1->BK->Prop:=λq st'=>st'=st/\match q with
 |.done c=>FIN r a b c.1\/OKh r a b N c.1 c.2.2.2.1 c.2.1 c.2.2.1
 |.yield c=>OKh r a b N c.1 c.2.2.2.1 c.2.1 c.2.2.1
theorem aMy{N mg:Nat}{c:MH1}(K:kK prog w A E s κ r a₀)(hk:kindOf st=κ)(M:MPre r a₀ a b)(h:OKh r a b N c.1 c.2.2.2.1 c.2.1 c.2.2.1):wpS (AG prog w) A E s (hi1 a b mg c) (H1 r a b st<|N+1) st:=by
 obtain⟨o,na,nb,out,ac,bc⟩:=c;obtain⟨h0,m,h1,h2,hN⟩:=h;dsimp only at h0 m h1 h2 hN;unfold hi1;dsimp only;have ha:=m.ha;have hbb:=m.hb;have h1':na-1<a.size:=by omega
 have h2':nb-1<b.size:=by omega
 refine AF<|dL h2' (AF<|dL h1' (AF<|K.ask (M.mb _<|by simp) (M.ma _<|by simp) hk ?_));dsimp only
 by_cases q:r b[nb-1]<r a[na-1]
 ·rw[if_pos<|by simpa using q];refine AF<|dL h1' ?_;have q':rkA r b (nb-1)<rkA r a (na-1):=by rw[dG h1',dG h2'];exact q
  have m2:=m.pushA' M h1 λj hj=>cN (M.asb.le0 (by omega) h2') q'
  by_cases e:na-1=0
  ·rw[if_pos<|by simpa using e];exact AI ⟨rfl,.inl<|aAF M m2 e⟩
  ·rw[if_neg<|by simpa using e]
   split
   ·exact AI ⟨rfl,.inr ⟨rfl,m2,by show 1<=na-1;omega,h2,by show na-1+nb+_<=_;omega⟩⟩
   ·exact AI ⟨rfl,rfl,m2,by show 1<=na-1;omega,h2,by show na-1+nb+_<=_;omega⟩
 ·rw[if_neg<|by simpa using q];refine AF (dL h2' ?_)
  have q':rkA r a (na-1)<rkA r b (nb-1):=by have:=M.ne (na-1) (nb-1) h1' h2';rw[dG h1',dG h2'] at this ⊢;omega
  have m2:=m.pushB' M (by omega) λj hj=>cN (M.asa.le0 (by omega) h1') q'
  by_cases e:nb-1=1
  ·rw[if_pos<|by simpa using e];exact AI ⟨rfl,.inl<|aAJ M m2 e⟩
  ·rw[if_neg<|by simpa using e]
   split
   ·exact AI ⟨rfl,.inr ⟨rfl,m2,h1,by show 2<=nb-1;omega,by show na+(nb-1)+_<=_;omega⟩⟩
   ·exact AI ⟨rfl,rfl,m2,h1,by show 2<=nb-1;omega,by show na+(nb-1)+_<=_;omega⟩
def H0(r:AH->Nat)(a b:Array AH)(st0:BK)(N:Nat):ForInStep MH0->BK->Prop:=λq st'=>SameG st0 st'/\match q with
 |.done c=>FIN r a b c.1
 |.yield c=>OKh r a b N c.1 c.2.2.2.1 c.2.1 c.2.2.1
theorem aMC{N:Nat}{c:MH0}(K:kK prog w A E s κ r a₀)(hk:kindOf st0=κ)(M:MPre r a₀ a b)(S:SameG st0 st)(h:OKh r a b N c.1 c.2.2.2.1 c.2.1 c.2.2.1):wpS (AG prog w) A E s (hi0 a b c) (H0 r a b st0<|N+1) st:=by
 obtain⟨o,na,nb,out,mg⟩:=c;obtain⟨h0,m,h1,h2,hN⟩:=h;dsimp only at h0 m h1 h2 hN;unfold hi0;dsimp only;refine AF<|Ab (AT (I:=λx d st'=>st'=st/\OKh r a b (N+x) d.1 d.2.2.2.1 d.2.1 d.2.2.1) (Q:=λd st'=>st'=st/\(FIN r a b d.1\/OKh r a b (N+1) d.1 d.2.2.2.1 d.2.1 d.2.2.1)) ?step ?fin ⟨rfl,rfl,m,h1,h2,hN⟩) ?post
 case step=>
  rintro x d st' _ hx ⟨rfl,hd⟩;refine Ab (aMy K (S.kind.trans hk) M hd) λq st'' hq=> ?_
  obtain⟨rfl,hq⟩:=hq;cases q with
  |done d=>exact⟨rfl,hq.imp id λz=>z.mono<|by omega⟩
  |yield d=>exact⟨rfl,hq⟩
 case fin=>rintro d st' ⟨rfl,_,_,h3,h4,h5⟩;omega
 case post=>
  rintro d st' ⟨rfl,hd⟩;obtain⟨o1,na,nb,out,ac,bc⟩:=d
  rcases hd with⟨res,e,hres⟩|⟨e,m,h1,h2,hN⟩
  ·dsimp only at e;subst e;exact AI ⟨S,res,rfl,hres⟩
  ·dsimp only at e m h1 h2 hN;subst e;dsimp only;refine AF (wpS_lift<|BB ⟨rfl, ?_⟩);refine AF (Ab (AT (I:=λx d st'=>SameG st0 st'/\OKh r a b (N+1+x) d.1 d.2.2.2.1 d.2.1 d.2.2.1) (Q:=λd st'=>SameG st0 st'/\(FIN r a b d.1\/OKh r a b (N+1) d.1 d.2.2.2.1 d.2.1 d.2.2.1)) ?step2 ?fin2 ⟨S,rfl,m,h1,h2,hN⟩) ?post2)
   case step2=>
    rintro x ⟨o2,na,nb,out,mg,ac,bc⟩ st' _ hx ⟨S,_,m,h1,h2,hN⟩;dsimp only at m h1 h2 hN;have key:∀mg,wpS (AG prog w) A E s (aLs a b out na nb mg ac bc) (H2 r a b st0<|N+1+(x+1)) st':=λmg=>aKi K hk M S m h1 h2<|by omega
    unfold hi2;dsimp only
    split<;>
    ·refine Ab (key _) λq st'' hq=> ?_
     obtain⟨S',hq⟩:=hq;cases q with
     |done d=>exact⟨S',hq.imp id λz=>z.mono<|by omega⟩
     |yield d=>exact⟨S',hq⟩
   case fin2=>rintro d st' ⟨_,_,_,h3,h4,h5⟩;omega
   case post2=>
    rintro⟨o2,na,nb,out,mg,ac,bc⟩ st' ⟨S,hd⟩
    rcases hd with⟨res,e,hres⟩|⟨e,m,h1,h2,hN⟩
    ·dsimp only at e;subst e;exact AI ⟨S,res,rfl,hres⟩
    ·dsimp only at e m h1 h2 hN;subst e;dsimp only;rw[iC];exact AF (At<|AI ⟨S.set _,rfl,m,h1,h2,hN⟩)
theorem aAz{Q:Array AH->BK->Prop}(K:kK prog w A E s κ r a₀)(hk:kindOf st=κ)(M:MPre r a₀ a b)
  (h:∀out st',MD r a b out.toList->SameG st st'->Q out st'):wpS (AG prog w) A E s (uF a b) Q st:=by
 rw[aNn];unfold hiM;refine AF (wpS_lift<|BB ⟨rfl, ?_⟩);have b1:=M.b1;have a1:=M.a1;refine AF<|dL (by omega) ?_;have m0:HS r a b (#[]:Array AH).toList a.size b.size:=⟨aJ _,aJ _,by rw[aCz<|by simp,aCz<|by simp];exact .refl _,by simp,λx hx=>by simp at hx,λx hx=>by simp at hx⟩;have m:HS r a b (#[a[a.size-1]]:Array AH).toList (a.size-1) b.size:=m0.pushA' M a1 λj hj=>M.last' j hj
 by_cases e:a.size-1=0
 ·rw[if_pos<|by simpa using e];obtain⟨res,e2,hr⟩:=aAF M m e;cases e2;exact AI (h _ _ hr<|.refl _)
 ·rw[if_neg<|by simpa using e]
  by_cases e1:b.size=1
  ·rw[if_pos<|by simpa using e1];obtain⟨res,e2,hr⟩:=aAJ M m e1;cases e2;exact AI (h _ _ hr<|.refl _)
  ·rw[if_neg<|by simpa using e1];refine AF (wpS_get (AF<|Ab (AT (I:=λx d st'=>SameG st st'/\OKh r a b (x+1) d.1 d.2.2.2.1 d.2.1 d.2.2.1) (Q:=λd st'=>SameG st st'/\FIN r a b d.1) ?step ?fin ⟨.refl _,rfl,m,by show 1<=a.size-1;omega,by show 2<=b.size;omega,by show a.size-1+b.size+(0+1)<=_;omega⟩) ?post))
   case step=>
    rintro x d st' _ hx ⟨S,hd⟩;refine Ab (aMC K hk M S hd) λq st'' hq=> ?_
    obtain⟨S',hq⟩:=hq;cases q with
    |done d=>exact⟨S',hq⟩
    |yield d=>exact⟨S',hq⟩
   case fin=>rintro d st' ⟨_,_,_,h3,h4,h5⟩;omega
   case post=>rintro d st' ⟨S,res,e,hr⟩;rw[e];exact AI<|h _ _ hr S
end
noncomputable abbrev Pnd:=Array<|Nat×Nat×Nat
noncomputable def wbA(sa:Nat)(m:Array AH)(xs:Array AH):Array AH:=m.toList.zipIdx.foldl (λa (q:AH×Nat)=>a.setIfInBounds (sa+q.2) q.1) xs
noncomputable def mgC(x y:Array AH)(na nb sa:Nat):SM Bool:=do
 let merged <-if na<=nb then vG x y else uF x y
 modify λs=>setArr s (wbA sa merged<|AJ s)
 let s <-get
 pure (failedOf s).isNone
noncomputable def mgB(xs:Array AH)(sa na sb nb:Nat):SM Bool:=do
 if(na==0)=true then pure true
 else do
  let x <-elem' xs (sa+na-1)
  let q <-lP true x xs sb nb (nb-1)
  match q with
  |some nb=>if(nb==0)=true then pure true else mgC (xs.extract sa sb) (xs.extract sb<|sb+nb) na nb sa
  |_=>pure false
noncomputable def mgA(i:Nat):SM Bool:=do
 let s <-get
 match(AD s)[i]?,(AD s)[i+1]? with
 |some (sa,na,pw),some (sb,nb,_)=>do
  set (BC s (((AD s).setIfInBounds i (sa,na+nb,pw)).eraseIdxIfInBounds<|i+1))
  let y <-elem' (AJ s) sb
  let q <-lP false y (AJ s) sa na 0
  match q with
  |some k=>mgB (AJ s) (sa+k) (na-k) sb nb
  |_=>pure false
 |_,_=>liftM (unsupported "internal:list.sort.pending":Sem Bool)
theorem aNj(i:Nat):mergeAt' i=mgA i:=by kernel_rfl
noncomputable def aPh(pw:Nat):SM (ForInStep<|Option Unit×Unit):=do
 let s <-get
 match(if(AD s).size>1 then(AD s)[(AD s).size-2]? else none) with
 |some (_,_,older)=>
  if older<=pw then pure (.done (none,()))
  else do
   let b <-mergeAt' ((AD s).size-2)
   if(!b)=true then pure (.done (some (),())) else pure (.yield (none,()))
 |_=>pure<|.done (none,())
noncomputable def aAM(lo n size:Nat):SM (ForInStep<|Option Unit×Nat):=do
 let s <-get
 match(AD s).back? with
 |some (s1,n1,_)=>do
  let c <-forIn [:size] ((none,()):Option Unit×Unit) λ_ _=>aPh<|power' size (2*s1+n1) (2*s1+n1+n1+n) size
  match c.1 with
  |some r=>pure<|.done (some r,lo)
  |none=>do
   modify λs=>BC s<|(AD s).modify ((AD s).size-1) λ(st,len,_)=>(st,len,power' size (2*s1+n1) (2*s1+n1+n1+n) size)
   modify λs=>BC s<|(AD s).push (lo,n,0)
   pure (.yield (none,lo+n))
 |_=>do
  modify λs=>BC s<|(AD s).push (lo,n,0)
  pure (.yield (none,lo+n))
noncomputable def aHE(size minrun:Nat)(c:Option Unit×Nat):SM (ForInStep<|Option Unit×Nat):=
 if c.2>=size then pure (.done (none,c.2))
 else do
  let f <-countRun' c.2 (size-c.2)
  match f with
  |some found=>
   if found<minrun then do
    liftM (rule "list.sort.binary-insertion")
    let b <-binarySort' c.2 (min (size-c.2) minrun) found
    if(!b)=true then pure (.done (some (),c.2)) else aAM c.2 (min (size-c.2) minrun) size
   else aAM c.2 found size
  |_=>pure<|.done (some (),c.2)
noncomputable def aLM:SM (ForInStep<|Option Unit×Unit):=do
 let s <-get
 if(AD s).size<=1 then pure (.done (none,()))
 else do
  let b <-mergeAt' (if((if(AD s).size-2>0 then(AD s)[(AD s).size-2-1]?.map (·.2.1) else none).any (·<((AD s)[(AD s).size-2+1]?.elim 0 (·.2.1))))=true then(AD s).size-2-1 else(AD s).size-2)
  if(!b)=true then pure (.done (some (),())) else pure (.yield (none,()))
noncomputable def srM:SM Unit:=do
 let s <-get
 let c <-forIn [:(AJ s).size] ((none,0):Option Unit×Nat) λ_ c=>aHE (AJ s).size (minRun' (AJ s).size (AJ s).size 0) c
 match c.1 with
 |some r=>pure r
 |none=>do
  let d <-forIn [:(AJ s).size] ((none,()):Option Unit×Unit) λ_ _=>aLM
  match d.1 with
  |some r=>pure r
  |none=>pure ()
theorem aNz:sortRuns'=srM:=by kernel_rfl
variable {xs:Array AH}
theorem aDr{i j t:Nat}(h:i+t<j)(hj:j<=xs.size):rkA r (xs.extract i j) t=rkA r xs (i+t):=by refine gJ ?_;rw[Array.getElem?_extract,if_pos<|by omega]
theorem aIp(sa t:Nat):∀ (l:List AH) (n:Nat) (xs:Array AH),sa+n+l.length<=xs.size->((l.zipIdx n).foldl (λa (q:AH×Nat)=>a.setIfInBounds (sa+q.2) q.1) xs)[t]? =if sa+n<=t/\t<sa+n+l.length then l[t-(sa+n)]? else xs[t]?
 |[],n,xs,_=>by rw[if_neg<|by rw[fX];omega];rfl
 |p::l,n,xs,h=>by
  rw[bD] at h
  have S:(xs.setIfInBounds (sa+n) p)[t]? =if sa+n=t then some p else xs[t]? :=by
   rw[Array.getElem?_setIfInBounds]
   by_cases e:sa+n=t
   ·rw[if_pos e,if_pos e,if_pos<|by omega]
   ·rw[if_neg e,if_neg e]
  rw[List.zipIdx_cons,List.foldl_cons,aIp sa t l (n+1) _ (by rw[Array.size_setIfInBounds];omega),bD,S]
  by_cases e:sa+n=t
  ·rw[if_neg (show ¬ (sa+(n+1)<=t/\t<sa+(n+1)+l.length) by omega),if_pos e,if_pos (show sa+n<=t/\t<sa+n+(l.length+1) by omega),show t-(sa+n)=0 by omega];rfl
  ·by_cases q:sa+(n+1)<=t/\t<sa+(n+1)+l.length
   ·rw[if_pos q,if_pos (show sa+n<=t/\t<sa+n+(l.length+1) by omega),show t-(sa+n)=t-(sa+(n+1))+1 by omega,List.getElem?_cons_succ]
   ·rw[if_neg q,if_neg e,if_neg (show ¬ (sa+n<=t/\t<sa+n+(l.length+1)) by omega)]
theorem aLA{sa:Nat}{m:Array AH}(h:sa+m.size<=xs.size)(t:Nat):(wbA sa m xs)[t]? =if sa<=t/\t<sa+m.size then m[t-sa]? else xs[t]? :=by have:=aIp sa t m.toList 0 xs (by simpa using h);unfold wbA;rw[this];simp
theorem aKu{sa:Nat}{m:Array AH}(h:sa+m.size<=xs.size):(wbA sa m xs).toList=xs.toList.take sa++(m.toList++xs.toList.drop (sa+m.size)):=by
 apply mM;intro t;rw[dE,aLA h];have l1:(xs.toList.take sa).length=sa:=by rw[dH];simp;omega
 by_cases h1:t<sa
 ·rw[if_neg<|by omega,dX (by rw[l1];exact h1),aAC h1,dE]
 ·rw[fO (by rw[l1];omega),l1]
  by_cases h2:t<sa+m.size
  ·rw[if_pos ⟨by omega,h2⟩,dX (by simp;omega),dE]
  ·rw[if_neg<|by omega,fO (by simp;omega),List.getElem?_drop,cO];rw[show sa+m.size+(t-sa-m.size)=t by omega,dE]
theorem aBZ{sa:Nat}(h:sa+n<=xs.size):xs.toList=xs.toList.take sa++((xs.extract sa<|sa+n).toList++xs.toList.drop (sa+n)):=by
 rw[dF,cR,show sa+n-sa=n by omega];have e:xs.toList.drop (sa+n)=(xs.toList.drop sa).drop n:=by rw[yZ]
 rw[e,fP,fP]
theorem aJC{sa:Nat}{m:Array AH}(h:sa+m.size<=xs.size)(hp:m.toList.Perm (xs.extract sa<|sa+m.size).toList):(wbA sa m xs).Perm xs:=by apply fN.mpr;rw[aKu h];refine List.Perm.trans ?_<|List.Perm.of_eq (aBZ (xs:=xs) h).symm;exact List.Perm.append_left _<|List.Perm.append_right _ hp
theorem aKa{i j:Nat}(h1:i<=j)(h2:j<=k)(h3:k<=xs.size):(xs.extract i j).toList++(xs.extract j k).toList=(xs.extract i k).toList:=by simp only[dF,cR];rw[show k-i=(j-i)+(k-j) by omega,List.take_add,yZ,show i+(j-i)=j by omega]
theorem aKK{st2:BK}{Q:PUnit->BK->Prop}(h:Q ⟨⟩ st2):wpS (AG prog w) A E s (set st2:StateT BK Sem PUnit) Q st:=by unfold wpS;rw[StateT.run_set];exact AC ⟨rfl,h⟩
theorem aAt{i sa pw sb pw':Nat}{Q:Bool->BK->Prop}(K:kK prog w A E s κ r a₀)(hB:SB κ a₀ st)(p1:(AD st)[i]? =some (sa,na,pw))(p2:(AD st)[i+1]? =some (sb,nb,pw'))(hs:sb=sa+na)(n1:1<=na)(n2:1<=nb)(hz:sb+nb<=a₀.size)
  (A1:AscR r (AJ st) sa sb) (A2:AscR r (AJ st) sb (sb+nb))
  (h:∀st',SB κ a₀ st'->AD st'=((AD st).setIfInBounds i (sa,na+nb,pw)).eraseIdxIfInBounds (i+1)->(∀k,k<sa\/sb+nb<=k->(AJ st')[k]? =(AJ st)[k]?)->AscR r (AJ st') sa (sb+nb)->Q true st'):wpS (AG prog w) A E s (mergeAt' i) Q st:=by
 have sz:=hB.size;have mem:∀x∈(AJ st).toList,x∈a₀.toList:=λx hx=>(fN.mp hB.perm).mem_iff.mp hx
 rw[aNj];unfold mgA;refine AF<|wpS_get ?_;rw[p1,p2];dsimp only;refine AF<|aKK ?_;have hB1:SB κ a₀ (BC st (((AD st).setIfInBounds i (sa,na+nb,pw)).eraseIdxIfInBounds<|i+1)):=⟨hB.perm,hB.kind,hB.failed⟩
 have h1:∀st',SameG (BC st (((AD st).setIfInBounds i (sa,na+nb,pw)).eraseIdxIfInBounds<|i+1)) st'->AscR r (AJ st) sa (sb+nb)->Q true st':=λst' S a=>by refine h st' ⟨by rw[S.arr];exact hB.perm,by rw[S.kind];exact hB.kind,by rw[S.failed];exact hB.failed⟩ S.pend (λk _=>by rw[S.arr]) ?_;rw[S.arr];exact a
 have hsb:sb<(AJ st).size:=by omega
 refine AF<|dL hsb (AF<|oV K hB1.kind mem (mem _<|by simp) (by omega) (by omega) (by rw[<-hs];exact A1) (λj hj e=> ?_) λk c1 c2 c3=> ?_)
 ·rw[<-dG (r:=r) hsb] at e;exact hB.ne K (i:=sa+j) (j:=sb) (by omega) (by omega) (by omega) e
 rw[<-dG (r:=r) hsb] at c2 c3
 have c2':∀j,sa<=j->j<sa+k->rkA r (AJ st) j<rkA r (AJ st) sb:=λj j1 j2=>by
  have:=c2 (j-sa)<|by omega
  rwa[show sa+(j-sa)=j by omega] at this
 have c3':∀j,sa+k<=j->j<sb->rkA r (AJ st) sb<rkA r (AJ st) j:=λj j1 j2=>by
  have:=c3 (j-sa) (by omega)<|by omega
  rwa[show sa+(j-sa)=j by omega] at this
 have A2l:∀j,sb<=j->j<sb+nb->rkA r (AJ st) sb<=rkA r (AJ st) j:=λj j1 j2=>by
  by_cases e:j=sb
  ·rw[e];exact aJ _
  ·exact dA<|A2 sb j (aJ _) (by omega) j2
 dsimp only;unfold mgB
 by_cases e0:na-k=0
 ·rw[if_pos<|by simpa using e0];refine AI (h1 _ (.refl _) λi j i1 ij j1=> ?_)
  by_cases q1:j<sb
  ·exact A1 i j i1 ij q1
  ·by_cases q2:i<sb
   ·exact aS (c2' i i1<|by omega)<|A2l j (by omega) j1
   ·exact A2 i j (by omega) ij j1
 ·rw[if_neg<|by simpa using e0];have ekn:sa+k+(na-k)-1=sb-1:=by omega
  have hkb:sb-1<(AJ st).size:=by omega
  rw[ekn];refine AF<|dL hkb (AF<|oV K hB1.kind mem (mem _<|by simp) (by omega) (by omega) A2 (λj hj e=> ?_) λn2' d1 d2 d3=> ?_)
  ·rw[<-dG (r:=r) hkb] at e;exact hB.ne K (i:=sb+j) (j:=sb-1) (by omega) (by omega) (by omega) e
  rw[<-dG (r:=r) hkb] at d2 d3
  have d2':∀j,sb<=j->j<sb+n2'->rkA r (AJ st) j<rkA r (AJ st) (sb-1):=λj j1 j2=>by
   have:=d2 (j-sb)<|by omega
   rwa[show sb+(j-sb)=j by omega] at this
  have d3':∀j,sb+n2'<=j->j<sb+nb->rkA r (AJ st) (sb-1)<rkA r (AJ st) j:=λj j1 j2=>by
   have:=d3 (j-sb) (by omega)<|by omega
   rwa[show sb+(j-sb)=j by omega] at this
  have n2p:n2'≠0:=λz=>by subst z;have a:=d3' sb (by omega) (by omega);have b:=c3' (sb-1) (by omega) (by omega);omega
  dsimp only;rw[if_neg<|by simpa using n2p];unfold mgC
  have M:MPre r a₀ ((AJ st).extract (sa+k) sb) ((AJ st).extract sb<|sb+n2'):=by
   have s1:((AJ st).extract (sa+k) sb).size=sb-(sa+k):=by rw[jE];omega
   have s2:((AJ st).extract sb<|sb+n2').size=n2':=by rw[jE];omega
   have e1:∀t,t<sb-(sa+k)->rkA r ((AJ st).extract (sa+k) sb) t=rkA r (AJ st) (sa+k+t):=λt ht=>aDr (by omega)<|by omega
   have e2:∀t,t<n2'->rkA r ((AJ st).extract sb<|sb+n2') t=rkA r (AJ st) (sb+t):=λt ht=>aDr (by omega)<|by omega
   refine⟨by omega,by omega,λi j _ ij j1=> ?_,λi j _ ij j1=> ?_,λx hx=> ?_,λx hx=> ?_,λi j i1 j1=> ?_, ?_, ?_⟩
   ·rw[s1] at j1;rw[e1 i<|by omega,e1 j j1];exact A1 _ _ (by omega) (by omega)<|by omega
   ·rw[s2] at j1;rw[e2 i<|by omega,e2 j j1];exact A2 _ _ (by omega) (by omega)<|by omega
   ·rw[dF,cR] at hx;exact mem x (dP<|dQ hx)
   ·rw[dF,cR] at hx;exact mem x (dP<|dQ hx)
   ·rw[s1] at i1;rw[s2] at j1;rw[e1 i i1,e2 j j1];exact hB.ne K (by omega) (by omega)<|by omega
   ·rw[e1 0<|by omega,e2 0<|by omega];exact c3' _ (by omega)<|by omega
   ·rw[s1,s2,e1 _<|by omega,e2 _<|by omega,show sa+k+(sb-(sa+k)-1)=sb-1 by omega];exact d2' _ (by omega)<|by omega
  have fin:∀out st',MD r ((AJ st).extract (sa+k) sb) ((AJ st).extract sb (sb+n2')) out.toList→SameG (BC st (((AD st).setIfInBounds i (sa,na+nb,pw)).eraseIdxIfInBounds (i+1))) st'→wpS (AG prog w) A E s (do
    modify λs=>setArr s (wbA (sa+k) out<|AJ s)
    let s <-get
    pure (failedOf s).isNone) Q st':=λout st' D S=>by
   refine AF (At<|AF (wpS_get<|AI ?_))
   have ep:out.toList.Perm ((AJ st).extract (sa+k)<|sb+n2').toList:=by
    have:=D.1
    rwa[aKa (by omega) (by omega)<|by omega] at this
   have sO:out.size=sb+n2'-(sa+k):=by have:=ep.length_eq;rw[cO,cO,jE] at this;omega
   have hz2:sa+k+out.size<=(AJ st).size:=by omega
   have ep2:out.toList.Perm ((AJ st).extract (sa+k)<|sa+k+out.size).toList:=by rw[sO,show sa+k+(sb+n2'-(sa+k))=sb+n2' by omega];exact ep
   have ff:failedOf (setArr st' (wbA (sa+k) out<|AJ st'))=none:=by show failedOf st'=none;rw[S.failed];exact hB.failed
   rw[ff];have arr':AJ st'=AJ st:=S.arr
   have at_:∀t,(AJ<|setArr st' (wbA (sa+k) out<|AJ st'))[t]? =if sa+k<=t/\t<sb+n2' then out[t-(sa+k)]? else(AJ st)[t]? :=λt=>by show(wbA (sa+k) out<|AJ st')[t]? =_;rw[arr',aLA hz2,sO,show sa+k+(sb+n2'-(sa+k))=sb+n2' by omega]
   refine h _ ⟨?_, ?_,ff⟩ ?_ (λt ht=>by rw[at_,if_neg<|by omega]) ?_
   ·show(wbA (sa+k) out<|AJ st').Perm a₀;rw[arr'];exact(aJC hz2 ep2).trans hB.perm
   ·show kindOf st'=κ;rw[S.kind];exact hB.kind
   ·show AD st'=_;rw[S.pend]
   ·have rin:∀t,sa+k<=t->t<sb+n2'->rkA r (AJ<|setArr st' (wbA (sa+k) out<|AJ st')) t=rkA r out (t-(sa+k)):=λt t1 t2=>gJ (by rw[at_,if_pos ⟨t1,t2⟩])
    have rout:∀t,t<sa+k\/sb+n2'<=t->rkA r (AJ<|setArr st' (wbA (sa+k) out<|AJ st')) t=rkA r (AJ st) t:=λt ht=>gJ (by rw[at_,if_neg<|by omega])
    have mo:∀u,u<out.size->∃v,sa+k<=v/\v<sb+n2'/\rkA r out u=rkA r (AJ st) v:=λu hu=>by
     have hm:out[u]∈((AJ st).extract (sa+k)<|sb+n2').toList:=ep.mem_iff.mp (by simp);obtain⟨v,hv,ev⟩:=eU hm
     have hv':v<sb+n2'-(sa+k):=by have:=hv;rw[cO,jE] at this;omega
     refine⟨sa+k+v,by omega,by omega, ?_⟩;rw[dG hu,<-ev,<-aDr (xs:=AJ st) (i:=sa+k) (j:=sb+n2') (t:=v) (by omega) (by omega)];rw[dG<|by rw[jE];omega];simp
    have asO:∀u v,u<v->v<out.size->rkA r out u<rkA r out v:=λu v uv hv=>by have:=(aAe.mp D.2) u v (by simp;omega) (by simpa using hv) uv;rw[dG<|by omega,dG hv];simpa using this
    have low:∀t u,sa<=t->t<sa+k->u<out.size->rkA r (AJ st) t<rkA r out u:=λt u t1 t2 hu=>by
     obtain⟨v,v1,v2,ev⟩:=mo u hu;rw[ev]
     by_cases q:v<sb
     ·exact A1 t v t1 (by omega) q
     ·exact aS (c2' t t1 t2) (A2l v (by omega)<|by omega)
    have high:∀t u,sb+n2'<=t->t<sb+nb->u<out.size->rkA r out u<rkA r (AJ st) t:=λt u t1 t2 hu=>by
     obtain⟨v,v1,v2,ev⟩:=mo u hu;rw[ev]
     by_cases q:v<sb
     ·refine cN ?_ (d3' t t1 t2)
      by_cases e:v=sb-1
      ·rw[e];exact aJ _
      ·exact dA (A1 v (sb-1) (by omega) (by omega)<|by omega)
     ·exact A2 v t (by omega) (by omega) t2
    intro u v u1 uv v1
    by_cases q1:u<sa+k
    ·rw[rout u<|.inl q1]
     by_cases q2:v<sa+k
     ·rw[rout v<|.inl q2];exact A1 u v u1 uv<|by omega
     ·by_cases q3:v<sb+n2'
      ·rw[rin v (by omega) q3];exact low _ _ u1 q1<|by omega
      ·rw[rout v (.inr<|by omega)];exact aS (c2' u u1 q1)<|A2l v (by omega) v1
    ·by_cases q2:u<sb+n2'
     ·rw[rin u (by omega) q2]
      by_cases q3:v<sb+n2'
      ·rw[rin v (by omega) q3];exact asO _ _ (by omega)<|by omega
      ·rw[rout v (.inr<|by omega)];exact high _ _ (by omega) v1<|by omega
     ·rw[rout u (.inr<|by omega),rout v (.inr<|by omega)];exact A2 u v (by omega) uv v1
  dsimp only
  split
  ·exact AF<|aAB K hB1.kind M fin
  ·exact AF<|aAz K hB1.kind M fin
noncomputable def Runs(r:AH->Nat)(xs:Array AH):Nat->List (Nat×Nat×Nat)->Nat->Prop
 |s,[],e=>s=e
 |s,p::l,e=>p.1=s/\1<=p.2.1/\AscR r xs s (s+p.2.1)/\Runs r xs (s+p.2.1) l e
variable {ys:Array AH}
theorem AscR.keep{s e:Nat}(h:AscR r xs s e)(k:∀t,s<=t->t<e->ys[t]? =xs[t]?):AscR r ys s e:=λi j hi hij hj=>by rw[gJ (k i hi<|by omega),gJ<|k j (by omega) hj];exact h i j hi hij hj
theorem Runs.le:∀ {l:List (Nat×Nat×Nat)}{s e:Nat},Runs r xs s l e->s+l.length<=e
 |[],s,e,h=>by rw[show s=e from h];exact aJ _
 |p::l,s,e,⟨_,h1,_,h2⟩=>by have:=h2.le;rw[bD];omega
theorem Runs.keep:∀ {l:List (Nat×Nat×Nat)}{s e:Nat},Runs r xs s l e->(∀t,s<=t->t<e->ys[t]? =xs[t]?)->Runs r ys s l e
 |[],_,_,h,_=>h
 |p::l,s,e,⟨h0,h1,h2,h3⟩,k=>by have:=h3.le;exact⟨h0,h1,h2.keep λt t1 t2=>k t t1<|by omega,h3.keep λt t1 t2=>k t (by omega) t2⟩
theorem Runs.split:∀ {l1 l2:List (Nat×Nat×Nat)}{s e:Nat},Runs r xs s (l1++l2) e->∃m,Runs r xs s l1 m/\Runs r xs m l2 e
 |[],l2,s,e,h=>⟨s,rfl,h⟩
 |p::l1,l2,s,e,⟨h0,h1,h2,h3⟩=>by obtain⟨m,a,b⟩:=Runs.split h3;exact⟨m,⟨h0,h1,h2,a⟩,b⟩
theorem Runs.app:∀ {l1 l2:List (Nat×Nat×Nat)}{s m e:Nat},Runs r xs s l1 m->Runs r xs m l2 e->Runs r xs s (l1++l2) e
 |[],l2,s,m,e,h,h2=>by rw[show s=m from h];exact h2
 |p::l1,l2,s,m,e,⟨h0,h1,h2,h3⟩,b=>⟨h0,h1,h2,Runs.app h3 b⟩
theorem Runs.pow{l1:List (Nat×Nat×Nat)}{x y:Nat×Nat×Nat}{s e:Nat}(h:Runs r xs s (l1++[x]) e)(h1:y.1=x.1)(h2:y.2.1=x.2.1):Runs r xs s (l1++[y]) e:=by obtain⟨m,a,b⟩:=h.split;refine a.app ?_;obtain⟨b0,b1,b2,b3⟩:=b;exact⟨h1.trans b0,by rw[h2];exact b1,by rw[h2];exact b2,by rw[h2];exact b3⟩
theorem aIv{p:Pnd}{i:Nat}(h:i+1<p.size)(v:Nat×Nat×Nat):p.toList=p.toList.take i++p[i]::p[i+1]::p.toList.drop (i+2)/\((p.setIfInBounds i v).eraseIdxIfInBounds<|i+1).toList=p.toList.take i++v::p.toList.drop (i+2):=by
 have e1:p.toList=p.toList.take i++p[i]::p[i+1]::p.toList.drop (i+2):=by
  have a:p.toList.drop i=p[i]::p.toList.drop (i+1):=by rw[dY<|by simp;omega];simp
  have b:p.toList.drop (i+1)=p[i+1]::p.toList.drop (i+1+1):=by rw[dY<|by simp;omega];simp
  rw[<-b,<-a,fP]
 refine⟨e1, ?_⟩;have l1:(p.toList.take i).length=i:=by rw[dH];simp;omega
 rw[Array.toList_eraseIdxIfInBounds,Array.toList_setIfInBounds];generalize p.toList.take i=u at e1 l1;generalize p.toList.drop (i+2)=z at e1;rw[e1];rw[List.set_append_right _ _<|by omega,l1,sV,List.set_cons_zero,List.eraseIdx_append_of_length_le<|by omega,l1,show i+1-i=1 by omega];rfl
theorem aDt{i e:Nat}{Q:Bool->BK->Prop}(K:kK prog w A E s κ r a₀)(hB:SB κ a₀ st)(R:Runs r (AJ st) 0 (AD st).toList e)(he:e<=a₀.size)(hi:i+1<(AD st).size)
  (h:∀st',SB κ a₀ st'->Runs r (AJ st') 0 (AD st').toList e->(AD st').size+1=(AD st).size->(∀k,e<=k->(AJ st')[k]? =(AJ st)[k]?)->Q true st'):wpS (AG prog w) A E s (mergeAt' i) Q st:=by
 obtain⟨e1,_⟩:=aIv hi (0,0,0);have R0:=R;rw[e1] at R0;obtain⟨m,R1,a1,a2,a3,b1,b2,b3,R2⟩:=R0.split
 have h1:(AD st)[i]? =some (m,(AD st)[i].2.1,(AD st)[i].2.2):=by rw[getElem?_pos _ i<|by omega];refine congrArg some ?_;rw[<-a1]
 have h2:(AD st)[i+1]? =some (m+(AD st)[i].2.1,(AD st)[i+1].2.1,(AD st)[i+1].2.2):=by rw[getElem?_pos _ (i+1)<|by omega];refine congrArg some ?_;rw[<-b1]
 have l2:=R2.le;have l1:=R1.le;refine aAt K hB h1 h2 rfl a2 b2 (by omega) a3 b3 λst' hB' hp hk ha=> ?_
 obtain⟨_,e2⟩:=aIv hi (m,(AD st)[i].2.1+(AD st)[i+1].2.1,(AD st)[i].2.2);have ep:(AD st').toList=(AD st).toList.take i++(m,(AD st)[i].2.1+(AD st)[i+1].2.1,(AD st)[i].2.2)::(AD st).toList.drop (i+2):=by rw[hp];exact e2
 refine h st' hB' ?_ ?_ λk hk2=>hk k (.inr<|by omega)
 ·rw[ep];refine(R1.keep λt _ t2=>hk t<|.inl t2).app ⟨rfl,by show 1<=_+_;omega, ?_, ?_⟩
  ·show AscR r (AJ st') m (m+(_+_));rw[<-aPb];exact ha
  ·show Runs r (AJ st') (m+(_+_)) _ e;rw[<-aPb];exact R2.keep λt t1 _=>hk t<|.inr t1
 ·have:=congrArg wY ep;have q:=congrArg wY e1;simp only[cO,aN,bD] at this q;omega
structure SR(κ:Ar)(r:AH->Nat)(a₀:Array AH)(lo:Nat)(st:BK):Prop where
 sb:SB κ a₀ st
 runs:Runs r (AJ st) 0 (AD st).toList lo
theorem aBf{lo:Nat}{Q:ForInStep (Option Unit×Nat)->BK->Prop}(K:kK prog w A E s κ r a₀)(S:SR κ r a₀ lo st)(n1:1<=n)(hn:lo+n<=a₀.size)(ha:AscR r (AJ st) lo (lo+n))(h:∀st',SR κ r a₀ (lo+n) st'->Q (.yield (none,lo+n)) st'):wpS (AG prog w) A E s (aAM lo n a₀.size) Q st:=by
 unfold aAM;refine AF<|wpS_get ?_
 have fin:∀st',SR κ r a₀ lo st'->AscR r (AJ st') lo (lo+n)->SR κ r a₀ (lo+n) (BC st'<|(AD st').push (lo,n,0)):=λst' S' ha'=>by refine⟨⟨S'.sb.perm,S'.sb.kind,S'.sb.failed⟩, ?_⟩;show Runs r (AJ st') 0 ((AD st').push (lo,n,0)).toList (lo+n);rw[jN];exact S'.runs.app ⟨rfl,n1,ha',rfl⟩
 cases hb:(AD st).back? with
 |none=>exact AF (At<|AI (h _<|fin st S ha))
 |some p=>
  obtain⟨s1,n1',p1⟩:=p;dsimp only;generalize power' a₀.size (2*s1+n1') (2*s1+n1'+n1'+n) a₀.size=pw
  have ne0:1<=(AD st).size:=by
   rcases Nat.eq_zero_or_pos (AD st).size with z|z
   ·rw[Array.eq_empty_of_size_eq_zero z] at hb;cases hb
   ·exact z
  refine AF<|Ab (AT (I:=λ_ c st'=>c=(none,())/\SR κ r a₀ lo st'/\1<=(AD st').size/\AscR r (AJ st') lo (lo+n)) (Q:=λc st'=>c=(none,())/\SR κ r a₀ lo st'/\1<=(AD st').size/\AscR r (AJ st') lo (lo+n)) ?step (λ_ _ z=>z) ⟨rfl,S,ne0,ha⟩) ?post
  case step=>
   rintro x c st' _ hx ⟨rfl,S',ne',ha'⟩;unfold aPh;refine AF<|wpS_get ?_
   by_cases q:(AD st').size>1
   ·rw[if_pos q,getElem?_pos _ _<|by omega];dsimp only
    split
    ·exact AI ⟨rfl,S',ne',ha'⟩
    ·refine AF<|aDt K S'.sb S'.runs (by omega) (by omega) λst'' hB hr hs hk=> ?_;rw[if_neg<|by decide];exact AI ⟨rfl,⟨hB,hr⟩,by omega,ha'.keep λt t1 _=>hk t t1⟩
   ·rw[if_neg q];exact AI ⟨rfl,S',ne',ha'⟩
  case post=>
   rintro c st' ⟨rfl,S',ne',ha'⟩;dsimp only;refine AF (At<|AF (At<|AI (h _<|fin (BC st'<|(AD st').modify ((AD st').size-1) λ(x:Nat×Nat×Nat)=>(x.1,x.2.1,pw)) ⟨⟨S'.sb.perm,S'.sb.kind,S'.sb.failed⟩, ?_⟩ ha')));show Runs r (AJ st') 0 ((AD st').modify ((AD st').size-1) λ(x:Nat×Nat×Nat)=>(x.1,x.2.1,pw)).toList lo
   have hl:(AD st').toList≠[]:=λz=>by have:=congrArg wY z;rw[cO,fX] at this;omega
   have e1:=(kS hl).symm;have R:=S'.runs;rw[e1] at R
   have e2:((AD st').modify ((AD st').size-1) λ(x:Nat×Nat×Nat)=>(x.1,x.2.1,pw)).toList=(AD st').toList.dropLast++[(((AD st').toList.getLast hl).1,((AD st').toList.getLast hl).2.1,pw)]:=by
    apply mM;intro t;rw[dE,aCA];have ld:(AD st').toList.dropLast.length=(AD st').size-1:=by simp
    by_cases q:(AD st').size-1=t
    ·rw[if_pos q,fO (by rw[ld];omega),ld,q,sV,<-q];rw[List.getLast_eq_getElem];have:(AD st').size-1<(AD st').size:=by omega
     simp[this]
    ·rw[if_neg q]
     by_cases q2:t<(AD st').size-1
     ·rw[dX (by rw[ld];exact q2),List.getElem?_dropLast,if_pos (by simpa using q2),dE]
     ·rw[fO (by rw[ld];omega),ld];rw[aBJ<|by omega,gR<|by simp;omega]
   rw[e2];exact R.pow rfl rfl
theorem aEY{Q:Unit->BK->Prop}(K:kK prog w A E s κ r a₀)(hB:SB κ a₀ st)(hp:AD st= #[])(h:∀st',SB κ a₀ st'->AscR r (AJ st') 0 a₀.size->Q () st'):wpS (AG prog w) A E s sortRuns' Q st:=by
 rw[aNz];unfold srM;refine AF<|wpS_get ?_;have sz:=hB.size;rw[sz];generalize minRun' a₀.size a₀.size 0=minrun;refine AF<|Ab (AT (I:=λx c st'=>∃lo,c=(none,lo)/\SR κ r a₀ lo st'/\lo<=a₀.size/\(x<=lo\/lo=a₀.size)) (Q:=λc st'=>c=(none,a₀.size)/\SR κ r a₀ a₀.size st') ?step ?fin ⟨0,rfl,⟨hB,by rw[hp];rfl⟩,cQ _,.inl<|aJ _⟩) ?post
 case fin=>
  rintro c st' ⟨lo,rfl,S,h1,h2⟩;have:lo=a₀.size:=by omega
  subst this;exact⟨rfl,S⟩
 case step=>
  rintro x c st' _ hx ⟨lo,rfl,S,h1,h2⟩;unfold aHE;dsimp only
  by_cases q:lo>=a₀.size
  ·rw[if_pos q];have:lo=a₀.size:=by omega
   subst this;exact AI ⟨rfl,S⟩
  ·rw[if_neg q];refine AF<|aBW K S.sb (by omega) (by omega) λm st2 m1 m2 T ha=> ?_;have S2:SR κ r a₀ lo st2:=⟨T.sb,by rw[T.pend];exact S.runs.keep λt _ t2=>T.keep t<|.inl t2⟩;dsimp only
   by_cases z:m<minrun
   ·rw[if_pos z];refine AF (wpS_lift<|BB ⟨rfl, ?_⟩);refine AF<|aGZ K S2.sb (by omega) (by omega) ha λst3 T3 ha3=> ?_;rw[if_neg<|by decide];refine aBf K ⟨T3.sb,by rw[T3.pend];exact S2.runs.keep λt _ t2=>T3.keep t<|.inl t2⟩ (by omega) (by omega) ha3 λst4 S4=>⟨_,rfl,S4,by omega,.inl<|by omega⟩
   ·rw[if_neg z];exact aBf K S2 m1 (by omega) ha λst4 S4=>⟨_,rfl,S4,by omega,.inl<|by omega⟩
 case post=>
  rintro c st' ⟨rfl,S⟩;dsimp only
  have pl:(AD st').size<=a₀.size:=by have:=S.runs.le;simpa using this
  refine AF<|Ab (AT (I:=λx c st''=>c=(none,())/\SR κ r a₀ a₀.size st''/\(AD st'').size<=a₀.size-x) (Q:=λc st''=>c=(none,())/\SR κ r a₀ a₀.size st''/\(AD st'').size<=1) ?step2 ?fin2 ⟨rfl,S,by omega⟩) ?post2
  case fin2=>rintro c st'' ⟨rfl,S,h1⟩;exact⟨rfl,S,by omega⟩
  case step2=>
   rintro x c st'' _ hx ⟨rfl,S,h1⟩;unfold aLM;refine AF<|wpS_get ?_
   by_cases q:(AD st'').size<=1
   ·rw[if_pos q];exact AI ⟨rfl,S,q⟩
   ·rw[if_neg q];have go:∀i,i+1<(AD st'').size->wpS (AG prog w) A E s (mergeAt' i) (λb st'=>b=true/\SR κ r a₀ a₀.size st'/\(AD st').size<=a₀.size-(x+1)) st'':=λi hi=>aDt K S.sb S.runs (aJ _) hi λst3 hB3 hr hs hk=>⟨rfl,⟨hB3,hr⟩,by omega⟩
    refine AF<|Ab (go _ ?_) λb st3 hb=> ?_
    ·have bd:∀c:Bool,(if c=true then(AD st'').size-2-1 else(AD st'').size-2)+1<(AD st'').size:=λc=>by
      cases c
      ·rw[if_neg<|by decide];omega
      ·rw[if_pos rfl];omega
     exact bd _
    ·obtain⟨rfl,S3,h3⟩:=hb;rw[if_neg<|by decide];exact AI ⟨rfl,S3,h3⟩
  case post2=>
   rintro c st'' ⟨rfl,S,h1⟩;refine AI<|h st'' S.sb ?_;have R:=S.runs;generalize e:(AD st'').toList=l at R;have ll:l.length<=1:=by rw[<-e];simpa using h1
   match l,ll with
   |[],_=>have:0=a₀.size:=R;intro i j _ _ hj;omega
   |[p],_=>obtain⟨_,_,b,c⟩:=R;have c:0+p.2.1=a₀.size:=c;rw[c] at b;exact b
open PySem.W (KasT kas_sort kas_asc kas_desc kas_tail3 kas_descPart kas_count kas_place kas_bin kas_rev kas_ask kas_item kat_lt kat_cons kat_nil kat_yes kat_no kat_one kat_kind kat_run kat_snds KatTups)
open PySem.W (KasT kas_sort kas_asc kas_desc kas_tail3 kas_descPart kas_count kas_place kas_bin kas_rev)
open PySem.W (KasT kas_sort kas_asc kas_desc kas_tail3 kas_descPart kas_count kas_place kas_bin kas_rev kas_ask kas_item kat_lt kat_cons kat_nil kat_yes kat_no kat_one kat_kind kat_run kat_snds KatTups KatLex)
theorem aAb{α β:Type}{f:α->β}{l:List α}{l':List β}(h:l'.Perm (l.map f)):∃l2:List α,l2.Perm l/\l'=l2.map f:=by
 generalize hy:l.map f=y at h
 induction h generalizing l with
 |nil=>
  have:l=[]:=by simpa using hy
  subst this;exact⟨[],.refl _,rfl⟩
 |cons x p ih=>
  cases l with
  |nil=>simp at hy
  |cons a t=>simp only[aW,aCB.injEq] at hy;obtain⟨l3,q1,q2⟩:=ih hy.2;exact⟨a::l3,q1.cons a,by rw[aW,hy.1,q2]⟩
 |swap x y l0=>
  match l,hy with
  |a::b::t,hy=>simp only[aW,aCB.injEq] at hy;exact⟨b::a::t,List.Perm.swap a b t,by rw[aW,aW,hy.1,hy.2.1,hy.2.2]⟩
  |[a],hy=>simp at hy
  |[],hy=>simp at hy
 |trans p1 p2 ih1 ih2=>obtain⟨l3,q1,q2⟩:=ih2 hy;obtain⟨l4,r1,r2⟩:=ih1 q2.symm;exact⟨l4,r1.trans q1,r2⟩
variable {a b:Expr}
noncomputable def mV(k:List Key):D:=.tup<|k.map kD
noncomputable def nG(h:BH)(a:BF)(vs:List BD):BH:=((h.update a<|Obj.mapSeq λ_=> #[]).push<|Ah "tuple" vs.toArray 0).push<|Ah "list" #[] 0
theorem pW(vs:List BD):(vs.toArray.zip vs.toArray).toList=vs.map λv=>(v,v):=by
 rw[Array.toList_zip];show vs.zip vs=_
 induction vs with
 |nil=>rfl
 |cons v vs ih=>rw[cW,ih];rfl
theorem aJc{rk:BD->Nat}{vs:List BD}(nd:(vs.map rk).Nodup)(hask:∀x∈vs,∀y∈vs,∀ (Q:Bool->BE->Prop) (E':BD->BE->Prop),Q (decide<|rk x<rk y) s->AK (AG prog w) A (keyLt' κ x y) Q E' s):kK prog w A E s κ (λp=>rk p.1) (vs.toArray.zip vs.toArray):=by
 refine⟨λ{x y st Q} hx hy hk h=> ?_, ?_⟩
 ·rw[pW] at hx hy;obtain⟨u,hu,rfl⟩:=aQ.mp hx;obtain⟨v,hv,rfl⟩:=aQ.mp hy;rw[lt'_eq];refine AF<|wpS_get ?_;rw[hk];exact AF<|wpS_lift (wpAny_attempt<|hask u hu v hv _ _ ⟨rfl,AI h⟩)
 ·rw[pW,aV];exact nd
theorem xG{a:BF}{vs:List BD}{rk:BD->Nat}{R:PySem.Fin->BE->Prop}(ho:s.heap.get? a=some (Ah "list" vs.toArray n))(nd:(vs.map rk).Nodup)(hn:vs.length<=10000)
  (hkind:2<=vs.length->∀ (Q:Ar->BE->Prop),Q κ ⟨nG s.heap a vs,s.gens,s.drawn,s.toks,s.os⟩->AK (AG prog w) A (keyKind' vs.toArray) Q E ⟨nG s.heap a vs,s.gens,s.drawn,s.toks,s.os⟩)
  (hask:∀x∈vs,∀y∈vs,∀ (Q:Bool->BE->Prop) (E':BD->BE->Prop),Q (decide<|rk x<rk y) ⟨nG s.heap a vs,s.gens,s.drawn,s.toks,s.os⟩->AK (AG prog w) A (keyLt' κ x y) Q E' ⟨nG s.heap a vs,s.gens,s.drawn,s.toks,s.os⟩)
  (h:∀out:Array BD,out.toList.Perm vs->(out.toList.map rk).Pairwise (·<·)->R (.done<|.ret .none) {s with heap:=sortedHeap s.heap a vs out}):AK (AG prog w) A (Builtin.«list.sort» ⟨[.ref a],[]⟩) R E s:=by
 have lt:a<s.heap.objs.size:=aP ho;have sz:vs.toArray.size=vs.length:=by simp
 obtain⟨n0,g1⟩:∃n0,(s.heap.update a<|Obj.mapSeq λ_=> #[]).get? a=some (Ah "list" #[] n0):=⟨_,get?_update_seq ho λ_=> #[]⟩
 have n1:a≠((s.heap.update a<|Obj.mapSeq λ_=> #[]).push<|Ah "tuple" vs.toArray 0).objs.size:=by rw[size_push',nI];exact bQ<|mR lt
 have n2:a≠(s.heap.update a<|Obj.mapSeq λ_=> #[]).objs.size:=by rw[nI];exact bQ lt
 have g6:(nG s.heap a vs).get? a=some (Ah "list" #[] n0):=by unfold nG;rw[aIA _ _ _ n1,aIA _ _ _ n2,g1]
 rw[list_sort_plain];refine AA (listItems_at ho rfl<|AA (listUpdate_at ho rfl (AA (seqEpoch_at g1 rfl<|AA (wpAny_newTuple (AA (wpAny_newList (Ak ?_)<|cQ _))<|by show vs.length<=_;rw[Aq];omega))) (by rw[sz,Aq];omega)<|cQ _));show AK (AG prog w) A _ R E ⟨nG s.heap a vs,s.gens,s.drawn,s.toks,s.os⟩;dsimp only
 by_cases h2:vs.toArray.size<2
 ·rw[if_pos h2,if_pos h2];refine AA<|AC ?_;rw[StateT.run_pure];refine AA (AC (AA<|seqEpoch_at g6 rfl (AA<|listUpdate_at g6 rfl ?_ (cQ _) ?_)))
  ·simp only[bne_self_eq_false,if_false,bZ];refine AC ?_
   have e:Array.map (λ(x:AH)=>x.2) (AJ<|SortSt.mk' general' (vs.toArray.zip vs.toArray) #[] 7 none)=vs.toArray:=by apply sX.mp;rw[sY];show(vs.toArray.zip vs.toArray).toList.map _=vs;rw[pW,aV];exact kI _
   rw[e];refine h vs.toArray (.refl _) ?_;rw[sz] at h2
   match vs,h2 with
   |[],_=>exact .nil
   |[v],_=>exact jK _ _
  ·show(Array.map _<|vs.toArray.zip vs.toArray).size<=_;rw[Array.size_map,Array.size_zip,sz,Aq];omega
 ·rw[if_neg h2,if_neg h2];rw[sz] at h2;refine AA<|hkind (by omega) _ ?_;have K:kK prog w A E ⟨nG s.heap a vs,s.gens,s.drawn,s.toks,s.os⟩ κ (λp=>rk p.1) (vs.toArray.zip vs.toArray):=aJc nd hask;refine AA<|AX (aEY (Q:=λ_ st'=>SB κ (vs.toArray.zip vs.toArray) st'/\AscR (λp=>rk p.1) (AJ st') 0 (vs.toArray.zip vs.toArray).size) K (st:=SortSt.mk' κ (vs.toArray.zip vs.toArray) #[] 7 none) ⟨Array.Perm.refl _,rfl,rfl⟩ rfl λst' b c=>⟨b,c⟩) ?_ λ_ _ z=>z;rintro⟨⟨⟩,st'⟩ s' ⟨rfl,hB,hA⟩;dsimp only
  have pm:(AJ st').toList.Perm (vs.map λv=>(v,v)):=by
   have:=fN.mp hB.perm
   rwa[pW] at this
  have p2:((AJ st').map (·.2)).toList.Perm vs:=by rw[sY];have:=pm.map (·.2);rw[aV] at this;exact this.trans (List.Perm.of_eq<|kI _)
  have sO:((AJ st').map (·.2)).size=vs.length:=by
   have:=p2.length_eq
   rwa[cO] at this
  refine AA<|seqEpoch_at g6 rfl (AA<|listUpdate_at g6 rfl ?_ (cQ _) ?_)
  ·rw[hB.failed];simp only[bne_self_eq_false,if_false,bZ];refine AC<|h _ p2 ?_;rw[sY,aV,aAe];intro i j hi hj hij;rw[aC,cO] at hi hj;have q:=hA i j (cQ _) hij (by rw[<-hB.size];exact hj);rw[dG hi,dG hj] at q
   have d:∀p∈(AJ st').toList,p.1=p.2:=λp hp=>by obtain⟨v,_,rfl⟩:=aQ.mp<|pm.mem_iff.mp hp;rfl
   rw[eG,eG];have d1:=d (AJ st')[i] (by simp);have d2:=d (AJ st')[j] (by simp);rw[d1,d2] at q;simpa using q
  ·rw[sO,Aq];omega
open PySem.W (kat_lt kat_cons kat_nil kat_yes kat_no kat_one kat_kind KatTups KatLex)
theorem aCt{l:BF}{vs:List BD}{rk:BD->Nat}{Q:BD->BE->Prop}(hl:s.heap.IsList l vs.toArray)(nd:(vs.map rk).Nodup)(hn:vs.length<=10000)
  (hkind:∀t:BE,(∀b o,s.heap.get? b=some o->t.heap.get? b=some o)->2<=vs.length->∀ (A':BG) (R:Ar->BE->Prop) (E':BD->BE->Prop),A'.units<=A.units+2->R κ t->AK (AG prog w) A' (keyKind' vs.toArray) R E' t)
  (hask:∀t:BE,(∀b o,s.heap.get? b=some o->t.heap.get? b=some o)->∀x∈vs,∀y∈vs,∀ (A':BG) (R:Bool->BE->Prop) (E':BD->BE->Prop),A'.units<=A.units+2->R (decide<|rk x<rk y) t->AK (AG prog w) A' (keyLt' κ x y) R E' t)
  (h:∀out:Array BD,out.toList.Perm vs->(out.toList.map rk).Pairwise (·<·)->Q (.ref<|s.heap.objs.size+1) {s with heap:=sortedAll s.heap vs out}):AK (AG prog w) A (call (.builtin "sorted") [.ref l]) Q E s:=by
 have hsz:((s.heap.push<|Ah "list" #[] 0).update s.heap.objs.size (Obj.mapSeq (·++vs.toArray))).objs.size=s.heap.objs.size+1:=by rw[nI,size_push']
 have hoL:(((s.heap.push<|Ah "list" #[] 0).update s.heap.objs.size (Obj.mapSeq (·++vs.toArray))).push<|Ah "list" vs.toArray 0).get? (s.heap.objs.size+1)=some (Ah "list" vs.toArray 0):=by rw[<-hsz];exact bN _ rfl
 have k2:∀b o,s.heap.get? b=some o->(((s.heap.push<|Ah "list" #[] 0).update s.heap.objs.size (Obj.mapSeq (·++vs.toArray))).push<|Ah "list" vs.toArray 0).get? b=some o:=λb o g=>by
  have nb:s.heap.objs.size≠b:=λz=>absurd (aP g) (by rw[<-z];exact eD _)
  refine aF _ ?_;rw[cP _ _ nb];exact aF _ g
 have k6:∀b o,s.heap.get? b=some o->(nG (((s.heap.push<|Ah "list" #[] 0).update s.heap.objs.size (Obj.mapSeq (·++vs.toArray))).push<|Ah "list" vs.toArray 0) (s.heap.objs.size+1) vs).get? b=some o:=λb o g=>by
  have nb:s.heap.objs.size+1≠b:=λz=>by have:=aP g;rw[<-z] at this;exact absurd this (oH.mpr<|gM _)
  unfold nG;refine aF _<|aF _ ?_;rw[cP _ _ nb];exact k2 b o g
 refine Calls.call_function_entry kind_sorted plain_sorted entry_sorted (args_sorted1<|.ref l) ?_;unfold Builtin.«sorted»;refine AA (m:=checkCount "sorted" 1 1 _) (AC<|AA (collect_list hl (AA (wpAny_newList ?_<|by rw[Aq];omega))<|by rw[Aq];omega));show AK _ _ _ _ _ ⟨((s.heap.push<|Ah "list" #[] 0).update s.heap.objs.size (Obj.mapSeq (·++vs.toArray))).push<|Ah "list" vs.toArray 0,s.gens,s.drawn,s.toks,s.os⟩;rw[hsz];refine AA (Ak (As slot_list_sort ⟨_,hoL,rfl⟩ entry_list_sort (xG (κ:=κ) (rk:=rk) (s:=⟨_,s.gens,s.drawn,s.toks,s.os⟩) hoL nd hn (λh2 R q=>hkind ⟨nG (((s.heap.push<|Ah "list" #[] 0).update s.heap.objs.size (Obj.mapSeq (·++vs.toArray))).push<|Ah "list" vs.toArray 0) (s.heap.objs.size+1) vs,s.gens,s.drawn,s.toks,s.os⟩ k6 h2 _ R _ ?_ q) (λx hx y hy R E' q=>hask ⟨nG (((s.heap.push<|Ah "list" #[] 0).update s.heap.objs.size (Obj.mapSeq (·++vs.toArray))).push<|Ah "list" vs.toArray 0) (s.heap.objs.size+1) vs,s.gens,s.drawn,s.toks,s.os⟩ k6 x hx y hy _ R E' ?_ q) λout p1 p2=>⟨_,rfl,AC ⟨_,rfl,h out p1 p2⟩⟩)<|args_list_sort _))
 all_goals simp only[Around.in1];omega
theorem aKG{fin b:Bool}{Q:Bool->BE->Prop}{r:List (BD×BD)}(x:aFH A s fin r b):∀ {i:Nat},Q b s->KatLex prog w A false fin Q r i s:=by
 induction x with
 |nil=>intro i q;exact kat_nil q
 |eq he _ ih=>intro i q;exact kat_cons<|SeqAt.EqAt.of_in1 he prog w _ _ (kat_yes<|ih q)
 |@lt x y r b he hl=>intro i q;refine kat_cons (SeqAt.EqAt.of_in1 he prog w _ _<|kat_no ?_);rw[zA];exact kat_one x y (wpAny_of_in1<|hl prog w _ _ q)
theorem vR{α β:Type}{G:α->β->Prop}:∀ {l:List α}{m:List β}{n:Nat}{a:α},Paired G l m->l[n]? =some a->∃b,m[n]? =some b/\G a b
 |_,_,_,_,.nil,h=>by simp at h
 |_,_,0,_,.cons r _,h=>by cases h;exact⟨_,rfl,r⟩
 |_,_,n+1,_,.cons _ t,h=>vR (n:=n) t (by simpa using h)
theorem qM{α β:Type}{G:α->β->Prop}:∀ {l:List α}{m:List β} (n:Nat),Paired G l m->Paired G (l.eraseIdx n) (m.eraseIdx n)
 |_,_,_,.nil=>.nil
 |_,_,0,.cons _ t=>t
 |_,_,n+1,.cons r t=>.cons r<|qM n t
def aPk(X:Cx):V->List V->Hp->VK->Prop:=λx vs H Q=>∃ (F:Hp) (l ad:BF) (k:List Key) (y:V) (n:Nat) (o:BI) (kvs:List (List Key×V)),x=.ref l/\vs=[.ref ad]/\Same F H/\H l=some (exO l o)/\F ad=some (.tup<|k.map kV)/\X.A.units+1<AS/\
 TDo X.prog X.w F l o kvs/\kvs[n]? =some (k,y)/\(∀o',(∀v,o'.data≠ .cell v)->TDo X.prog X.w F l o' (kvs.eraseIdx n)->Q y (upd H l<|exO l o'))
theorem aMZ:MtR X "dict.pop" (aPk X):=by
 intro pins s σ H x vs v us Q I rx rv h;obtain⟨F,l,ad,k,y,n,o,kvs,rfl,rfl,sF,hl,ha,hu,⟨z,hm,ts,kt,es,ep,t1,t2,t3,t4⟩,hn,q1⟩:=h;obtain rfl:v=Value.ref l:=rx;obtain⟨u,rfl,ru⟩:=Vals.one rv;obtain rfl:u=Value.ref ad:=ru;have ho:s.heap.get? l=some o:=(I.hok l _ hl).1;have ktH:KT H kvs ts:=kt.keeps λb ys e=>sF _ _ e
 have dd:s.heap.DictOfH (Af<|eA X.prog X.w) l ts:=⟨o,es,ep,ho,t1,t2,t3,KT.all I.hok ktH,t4⟩;have hz:ts.length<=AM:=by rw[<-Paired.length kt];exact z
 obtain⟨⟨k',b,w'⟩,hj,e1,_,rw'⟩:=vR kt hn;have e1:k=k':=e1;subst e1;refine call_meetsIn aAE dd.typeIs PySem.F.entry_dict_pop (PySem.F.args_dict_pop_2 _ _) (aBU (Af<|eA X.prog X.w) l ad) ⟨Ad hu,k,ts,n,(b,w'),lU I.hok<|sF _ _ ha,dd,hz,hj,λh' dd' hsm=> ?_⟩;obtain⟨q,es',ep',hq,u2,u3,u4,_,u5⟩:=dd';have I4:=oQ (t':=s.toks+(Af<|eA X.prog X.w).draws k) I (ob:=exO l q) (by rw[hl];exact True.intro) hsm ⟨q,hq⟩<|nQ hq;exact⟨y,_,I4,rw',q1 q (λv z=>by rw[u3] at z;cases z) ⟨by have:=List.length_eraseIdx_le kvs n;omega,hm,_,qM n kt,es',ep',u2,u3,u4,u5⟩⟩
variable {e:Expr}{l:BF}{ls:List BF}{ks:List (List Key)}{dss:List (List D)}
theorem aKJ(i:Nat)(hg:Gl X "len")(hm:X.mg "len"=none)(hs:sd[i]? =some (odG X.prog X.w X.K l ks ls dss))(hx:PE X (.Name x p2) (iI i))(hst:AB [.Name x p2] X.env=(false,eval (.Name x p2) X.env)::AB [] X.env:=by rfl):PEd X sd (.Call (.Name "len" p) [.Name x p2] [] pos) (.val<|.int (ks.length:Nat)):=.mk λσ F H S=>
 (nJ aFb hg hm PySem.boot_len (cY hx pa_nil hst) (by decide) (by decide) hst rfl).to (by
  obtain⟨hv,hF,⟨o,g1,nc,hl,z,sm,xs,kt,es,ep,t1,t2,t3,t4⟩,hI,nd⟩:=gP S hs;refine⟨.ref l,hv,l,o,es,ep,rfl,g1,t1,t2,sm, ?_,F,S,Same.refl _, ?_⟩
  ·have:=Au t3;have e2:=Paired.length kt;omega
  ·have:=Au t3;have e2:=Paired.length kt;have e3:(ks.zip<|ls.map V.ref).length=ks.length:=by rw[jD,aC,hl,oI]
   simp only[ResOk,Rep]
   rw[this,<-e2,e3])
theorem aDw{F:Hp}:∀ {kvs:List (List Key×V)}{xs:List (List Key×BF×BD)},KT F kvs xs->Vals (xs.map λq=>V.ref q.2.1) (xs.map λq=>Value.ref q.2.1)
 |_,_,.nil=>.nil
 |_,_,.cons _ t=>.cons rfl<|aDw t
theorem aHS{K:aA}{F:Hp}:∀ {kvs:List (List Key×V)}{xs:List (List Key×BF×BD)},KT F kvs xs->RepL K F ((kvs.map (·.1)).map mV) (xs.map λq=>V.ref q.2.1)
 |_,_,.nil=>.nil
 |_,_, @Paired.cons _ _ _ p q _ _ r t=>by refine .cons ?_ (aHS t);simp only[mV,Rep];refine⟨q.2.1,p.1.map kV,rfl,r.2.1, ?_⟩;exact vF _
theorem aHm(i:Nat)(hg:Gl X "list")(hm:X.mg "list"=none)(hs:sd[i]? =some (odG X.prog X.w X.K l ks ls dss))(hx:PE X (.Name x p2) (iI i))(hc:X.calm=true:=by rfl)(hst:AB [.Name x p2] X.env=(false,eval (.Name x p2) X.env)::AB [] X.env:=by rfl):PEd X sd (.Call (.Name "list" p) [.Name x p2] [] pos) (.own<|ks.map mV):=.mk λσ F H S pins s I=>by
 obtain⟨hv,hF,⟨o,g1,nc,hl,z,sm,xs,kt,es,ep,t1,t2,t3,t4⟩,hI,nd⟩:=gP S hs;refine AR<|lW I hg hm PyProof.Rows.boot_list ?_;refine PyProof.Rows.callWith_type1 (thn ((cY hx pa_nil hst) pos pins s σ H (λus H1=>us=[.ref l]/\H1=H) I ⟨.ref l,hv,rfl,rfl⟩) λus s1 hus=> ?_) hst rfl;obtain⟨ws,H1,I1,rv,rfl,rfl⟩:=hus;obtain⟨u,rfl,ru⟩:=pG rv;cases(show u=Value.ref l from ru);have ez:es.size=xs.length:=Au t3
 have e3:(ks.zip<|ls.map V.ref).map (·.1)=ks:=by rw[List.map_fst_zip];rw[aC];omega
 have e2:xs.length=ks.length:=by have:=Paired.length kt;rw[jD,aC] at this;omega
 have ho:s1.heap.get? l=some o:=(I1.hok l _ g1).1;refine PySem.W.kdl_call (srcD sm t1 t2) (I1.ok.hd hc) ho (by have:=Paired.length kt;omega) λh' tk acc c' kp gl it=> ?_
 have al:acc=(xs.map λq=>Value.ref q.2.1).toArray:=by
  apply sX.mp;apply mM;intro j
  by_cases hj:j<acc.toList.length
  ·have e4:acc.toList[j]? =some acc.toList[j]:=by simp[hj]
   obtain⟨u,q,ev⟩:=it.2 j acc.toList[j] (by rw[<-dE];exact e4);rw[e4,ev];rw[<-dE,t3,aZ] at q;obtain⟨y,hy,ey⟩:=eO.mp q;rw[<-ey];simp[hy,entryOfKey]
  ·have a1:acc.toList.length=es.size:=by rw[cO];exact it.1
   rw[gR<|by omega,gR<|by simp;omega]
 subst al;have le2:s1.heap.objs.size<=s1.heap.objs.size:=aJ _;have hD:H1 s1.heap.objs.size=none:=I1.hok.fresh le2
 have I4:Inv X pins σ (upd H1 s1.heap.objs.size (.lst<|xs.map λq=>V.ref q.2.1)) {s1 with heap:=h',toks:=tk}:=
  I1.laid kp le2 ⟨by rw[aC];have:=Paired.length kt;omega,_,c',aDw kt,gl⟩
 obtain⟨S4,fp,no⟩:=S.layO (xs:=xs.map λq=>V.ref q.2.1) hD;refine⟨.ref s1.heap.objs.size,_,I4,rfl,F,S4,Same.refl _,_,_,rfl,fp,bJ, ?_,no⟩;have:=aHS (K:=X.K) kt;rw[e3] at this;exact this
noncomputable def jO(ds:List D):Nat:=Ac (λi k=>dlt (ds.getD i .non)<|ds.getD k .non)<|ds.length-1
structure aIT(X:Cx)(ds:List D):Prop where
 ne:0<ds.length
 cmp:∀d∈ds,∀d2∈ds,qY d d2=true
 pl:∀d∈ds,pl d=true
 dep:∀d∈ds,X.A.units+1+dep d<AS
theorem aFr(hc:X.calm=true):mL X (.builtin "min") (λvs H Q=>∃ (a:BF) (xs:List V) (ds:List D),vs=[.ref a]/\SqL X.K H a xs/\RepL X.K H ds xs/\aIT X ds/\∀v,xs[jO ds]? =some v->Q v H):=by
 intro pins s σ H vs us Q I r h;obtain⟨a,xs,ds,rfl,ha,rl,M,q⟩:=h;obtain⟨u,rfl,rx⟩:=pG r;cases(show u=Value.ref a from rx);obtain⟨its,rv,p,hz⟩:=I.list ha;have hl:=rv.length;have hd:=rl.len;have isl:s.heap.IsList a its.toArray:=p.isList;have alt:a<s.heap.objs.size:=by obtain⟨o,ho,_⟩:=isl;exact aP ho
 refine aEr<|wpAny_pyIter_list isl ?_;refine⟨s.heap.objs.size,[s.heap.objs.size,a],[s.heap.objs.size],its.toArray.size,_,_,λh=>HOk X.prog X.w H h,λi k=>dlt (ds.getD i .non)<|ds.getD k .non,rfl,Walks.list (A:=X.A.in1) (I.ok.hd hc) _ a (bQ alt) its.toArray,⟨⟨_,bN _ rfl,rfl,rfl⟩,isl.push _⟩,λb hb=> ?_,by simp;have:=M.ne;omega, ?_, ?_, ?_,λv h' tk pv k=> ?_⟩
 ·rw[lR];simp only[bA,eX,or_false] at hb
  rcases hb with rfl|rfl
  ·exact gG _
  ·exact mR alt
 ·intro i k x y t Q' E' hJ hx hy q';have hx:its[i]? =some x:=by simpa using hx
  have hy:its[k]? =some y:=by simpa using hy
  have li:i<ds.length:=by have:=(aD.mp hx).1;omega
  have lk:k<ds.length:=by have:=(aD.mp hy).1;omega
  have ei:ds[i]? =some (ds.getD i .non):=by simp[cK,li]
  have ek:ds[k]? =some (ds.getD k .non):=by simp[cK,lk]
  obtain⟨v1,g1,r1⟩:=rl.get ei;obtain⟨v2,g2,r2⟩:=rl.get ek;obtain⟨u1,w1,z1⟩:=rv.get g1;obtain⟨u2,w2,z2⟩:=rv.get g2;rw[hx] at w1;rw[hy] at w2;cases w1;cases w2;have mi:=aY ei;have mk:=aY ek;exact aIj hJ (ds.getD i .non) (M.cmp _ mi _ mk) (M.pl _ mi) (M.pl _ mk) r1 r2 z1 z2 (by have:=M.dep _ mi;simp only[Around.in1];omega) X.prog X.w _ _ q'
 ·exact aAi (cs:=[]) I.hok (λb u _ g=>aF _ g) λb hb=>by cases hb
 ·intro h1 h2 j1 kp;refine aAi (cs:=[s.heap.objs.size+1,s.heap.objs.size]) j1 (λb u hb g=>kp b u (λz=>hb ?_) g) λb hb=> ?_
  ·rw[lR] at z;exact z
  ·simp only[bA,eX,or_false] at hb
   rcases hb with rfl|rfl
   ·exact I.hok.fresh<|gM _
   ·exact I.hok.fresh<|aJ _
 ·have eb:Ac (λi k=>dlt (ds.getD i .non)<|ds.getD k .non) (its.toArray.size-1)=jO ds:=by unfold jO;rw[bC];congr 1;omega
  rw[eb] at pv;have pv:its[jO ds]? =some v:=by simpa using pv
  have lb:jO ds<xs.length:=by have:=(aD.mp pv).1;omega
  have ex:xs[jO ds]? =some xs[jO ds]:=by simp[lb]
  obtain⟨u,hu,ru⟩:=rv.get ex;rw[pv] at hu;cases hu;refine⟨xs[jO ds],H,I.kept (t':=tk) λb o g=>k b o (λz=> ?_)<|aF _ g,ru,q _ ex⟩;have zb:b=s.heap.objs.size:=by simpa using z
  exact bQ (aP g) zb
theorem aKr{d:D}(hg:Gl X "min")(hm:X.mg "min"=none)(ha:PEd X sd e (.bor ds))(M:aIT X ds)(hd:ds[jO ds]? =some d)(hc:X.calm=true:=by rfl)(hst:AB [e] X.env=(false,eval e X.env)::AB [] X.env:=by rfl):PEd X sd (.Call (.Name "min" p) [e] [] pos) (.val d):=
 nR (he:=hst) (aFr hc) hg hm boot_min (aB ha aM trivial hst) λσ F H vs Q S q k=>by
  cases q with
  |cons q1 q2=>cases q2;obtain⟨p,xs,rfl,hp,rl,_⟩:=q1;refine⟨p,xs,ds,rfl,.of hp,rl.mono S.sub,M,λv hv=>k v F H S (Same.refl _) ?_⟩;obtain⟨v',g,r'⟩:=rl.get hd;rw[hv] at g;cases g;exact r'
theorem yG{α β:Type}:∀ (a:List α) (b:List β) (n:Nat),a.length=b.length->(a.zip b).eraseIdx n=(a.eraseIdx n).zip (b.eraseIdx n)
 |[],[],_,_=>by simp
 |_::_,[],_,h=>by simp at h
 |[],_::_,_,h=>by simp at h
 |x::a,y::b,0,_=>rfl
 |x::a,y::b,n+1,h=>by show(x,y)::(a.zip b).eraseIdx n=(x,y)::(a.eraseIdx n).zip (b.eraseIdx n);rw[yG a b n<|by simpa using h]
theorem yN{α β:Type}(f:α->β):∀ (l:List α) (n:Nat),(l.eraseIdx n).map f=(l.map f).eraseIdx n
 |[],_=>by simp
 |_::_,0=>rfl
 |x::l,n+1=>by show f x::(l.eraseIdx n).map f=f x::(l.map f).eraseIdx n;rw[yN f l n]
theorem aEM{j:Nat}{z:Slot}{a:BF}(h:sd[j]? =some z)(ha:a∈fC z):a∈bU sd:=dU.mpr ⟨z,aY h,ha⟩
variable {K:aA}{H₀ F F' H H':Hp}{σ:St}{i:Nat}{P:AE}
theorem StF.popG{o:BI}(n:Nat)(S:StF K H₀ F H σ sd)(hs:sd[i]? =some (odG P w K l ks ls dss))(nc:∀v,o.data≠ .cell v)(td:TDo P w F l o ((ks.zip<|ls.map V.ref).eraseIdx n)):
  StF K H₀ F (upd H l<|exO l o) σ (sd.set i (odG P w K l (ks.eraseIdx n) (ls.eraseIdx n)<|dss.eraseIdx n)):=by
 obtain⟨g1,g2,⟨o',g3,nc',hl,_⟩,g4,g5⟩:=gP S hs;obtain⟨n1,n2⟩:=bS.mp g5
 have sb:∀b,b∈l::ls.eraseIdx n->b∈l::ls:=λb hb=>by
  rcases bA.mp hb with h|h
  ·exact h▸aG
  ·exact aE _<|iZ h
 refine S.reX (z':=odG P w K l (ks.eraseIdx n) (ls.eraseIdx n)<|dss.eraseIdx n) hs g1 (λb ob hb q=> ?_) (mG S.smp l) (uR (λb hb=>g2 b<|sb b hb) bJ nc ?_ ?_ ?_) ?_ λb hb=>.inl<|sb b hb
 ·rw[aR (show b≠l from λz=>hb<|z▸aG)];exact q
 ·rw[aFy,aFy,hl]
 ·rw[yN,<-yG _ _ _ (by rw[aC];exact hl)];exact td
 ·refine InD.erase n<|g4.mono2 (Same.refl _) λb hb ob q=> ?_;rw[aR (show b≠l from λz=>n1<|z▸hb)];exact q
 ·show(l::ls.eraseIdx n).Nodup;exact bS.mpr ⟨λh=>n1<|iZ h,n2.sublist<|pA _ _⟩
open PySem.W (kat_lt kat_kind KatTups KatLex)
noncomputable abbrev Pr2:=List Int×List Int
noncomputable def p2D(x:Pr2):D:=.tup [bP x.1,bP x.2]
theorem aOu(x:Pr2):pl (p2D x)=true:=by show(pl (bP x.1)&&(pl (bP x.2)&&true))=true;rw[qP,qP];rfl
theorem vH:∀a b:List Int,xH (a.map D.int) (b.map D.int)=true
 |[],_=>rfl
 |_::_,[]=>rfl
 |x::a,y::b=>by show(true&&xH (a.map D.int) (b.map D.int))=true;rw[vH a b];rfl
theorem aNt(x y:Pr2):xH [bP x.1,bP x.2] [bP y.1,bP y.2]=true:=by show(xH (x.1.map D.int) (y.1.map D.int)&&(xH (x.2.map D.int) (y.2.map D.int)&&true))=true;rw[vH,vH];rfl
theorem aBh{x:List Int}{v:V}(h:Rep K F (bP x) v):∃c,v=.ref c/\F c=some (.tup<|x.map V.int):=by simp only[bP,Rep] at h;obtain⟨c,ys,rfl,e,r⟩:=h;have:=(show RepL K F (x.map D.int) ys from r).ints;subst this;exact⟨c,rfl,e⟩
theorem aAj:∀ {x y:List Int},x.map V.int=y.map V.int->x=y
 |[],[],_=>rfl
 |[],_::_,h=>by cases h
 |_::_,[],h=>by cases h
 |a::x,b::y,h=>by
  rw[aW,aW] at h;injection h with h1 h2
  injection h1 with h1
  rw[h1,aAj h2]
theorem aIr{x:Pr2}{v:V}(h:Rep K F (p2D x) v):∃a c d,v=.ref a/\F a=some (.tup [.ref c,.ref d])/\F c=some (.tup<|x.1.map V.int)/\F d=some (.tup<|x.2.map V.int):=by simp only[p2D,Rep] at h;obtain⟨a,ys,rfl,e,r⟩:=h;obtain⟨v1,ys1,rfl,r1,t1⟩:=r.uncons;obtain⟨v2,ys2,rfl,r2,t2⟩:=t1.uncons;simp only[RepL] at t2;subst t2;obtain⟨c,rfl,f1⟩:=aBh r1;obtain⟨d,rfl,f2⟩:=aBh r2;exact⟨a,c,d,rfl,e,f1,f2⟩
theorem aCp{x y:Pr2}{v:V}(h:Rep K F (p2D x) v)(g:Rep K F (p2D y) v):x=y:=by obtain⟨a,c,d,rfl,e,f1,f2⟩:=aIr h;obtain⟨a',c',d',ea,e',f1',f2'⟩:=aIr g;cases ea;rw[e] at e';cases e';rw[f1] at f1';rw[f2] at f2';have h1:=aAj (HO.tup.inj<|bM.inj f1');have h2:=aAj (HO.tup.inj<|bM.inj f2');exact Prod.ext h1 h2
structure SrtP(A:BG)(ps:List Pr2)(rk:Pr2->Nat):Prop where
 len:ps.length<=10000
 lt:∀x∈ps,∀y∈ps,dlt (p2D x) (p2D y)=decide (rk x<rk y)
 nd:(ps.map rk).Nodup
 un:A.units+8<AS
theorem aNf(x:Pr2):dep (p2D x)=2:=by show max (dep<|bP x.1) (max (dep<|bP x.2) 0)+1=2;rw[vC,vC];rfl
noncomputable def srE{α:Type}(hd:α->List D)(sn:α->D)(x:α):D:=.tup [.tup<|hd x,sn x]
structure aPy{α:Type}(A:BG)(K:aA)(hd:α->List D)(sn:α->D)(ps:List α)(rk:α->Nat):Prop where
 len:ps.length<=10000
 lt:∀x∈ps,∀y∈ps,pB [.tup<|hd x,sn x] [.tup<|hd y,sn y]=decide (rk x<rk y)
 nd:(ps.map rk).Nodup
 un:A.units+8<AS
 pl:∀x∈ps,plL [.tup<|hd x,sn x]=true
 cm:∀x∈ps,∀y∈ps,xH [.tup<|hd x,sn x] [.tup<|hd y,sn y]=true
 dp:∀x∈ps,lA [.tup<|hd x,sn x]<=4
 inj:∀ (F:Hp) (x y:α) (v:V),Rep K F (srE hd sn x) v->Rep K F (srE hd sn y) v->x=y
theorem aEe{v:V}(h:Rep K F (.tup ds) v):∃a,v=.ref a:=by simp only[Rep] at h;obtain⟨a,_,rfl,_⟩:=h;exact⟨a,rfl⟩
variable {α:Type}{hd:α->List D}{sn:α->D}
theorem aCj:mL X (.builtin "sorted") (fun vs H Q=>∃ (a:BF) (xs:List V) (ps:List α) (rk:α→Nat),vs=[.ref a]∧H a=some (.lst xs)∧RepL X.K H (ps.map (srE hd sn)) xs∧aPy X.A X.K hd sn ps rk∧
  ∀ (D:BF) (ys:List V) (qs:List α),H D=none->qs.Perm ps->(qs.map rk).Pairwise (·<·)->(∀F,RepL X.K F (ps.map (srE hd sn)) xs->RepL X.K F (qs.map (srE hd sn)) ys)->Q (.ref D) (upd H D (.lst ys))):=by
 intro pins s σ H vs us Q I r h;obtain⟨a,xs,ps,rk,rfl,ha,rl,M,q⟩:=h;obtain⟨u,rfl,rx⟩:=pG r;cases(show u=Value.ref a from rx);obtain⟨z,its,n,rv,hl2,eo⟩:=I.lstM ha
 have tb:∀ {ps:List α}{xs:List V}{us:List BD},RepL X.K H (ps.map<|srE hd sn) xs->Vals xs us->∃T:List (α×BF),us=(T.map λr=>Value.ref r.2)/\xs=(T.map λr=>V.ref r.2)/\ps=(T.map λr=>r.1)/\∀r∈T,Rep X.K H ((srE hd sn) r.1) (.ref r.2):=by
  intro ps
  induction ps with
  |nil=>intro xs us r rv;rw[eF] at r;simp only[RepL] at r;subst r;cases rv;exact⟨[],rfl,rfl,rfl,λr h=>(eX h).elim⟩
  |cons x ps ih=>
   intro xs us r rv;rw[aW] at r;obtain⟨v,xs,rfl,a,rl⟩:=r.uncons;cases rv with
   |cons ru rv=>
    obtain⟨T,e1,e2,e3,t1⟩:=ih rl rv;obtain⟨b,rfl⟩:=aEe a;cases ru;refine⟨(x,b)::T,by rw[aW,<-e1],by rw[aW,<-e2],by rw[aW,<-e3],λr hr=> ?_⟩
    rcases bA.mp hr with rfl|hr
    ·exact a
    ·exact t1 r hr
 obtain⟨T,rfl,rfl,rfl,tr⟩:=tb rl rv
 obtain⟨rkW,hrk⟩:∃rkW:BD->Nat,∀r∈T,rkW (.ref r.2)=rk r.1:=by
  classical
  refine⟨λv=>if h:∃r∈T,v=Value.ref r.2 then rk h.choose.1 else 0,λr hr=> ?_⟩;have h:∃r'∈T,Value.ref r.2=Value.ref r'.2:=⟨r,hr,rfl⟩;show(if h:∃r'∈T,Value.ref r.2=Value.ref r'.2 then rk h.choose.1 else 0)=_;rw[dif_pos h]
  have e2:r.2=h.choose.2:=by have:=h.choose_spec.2;injection this
  have r2:=tr _ h.choose_spec.1;rw[<-e2] at r2;rw[M.inj _ _ _ _ r2<|tr r hr]
 have mT:∀ {r:α×BF},r∈T->r.1∈T.map λr=>r.1:=λh=>List.mem_map_of_mem (f:=λr:α×BF=>r.1) h
 have lT:T.length<=10000:=by simpa using M.len
 have mv:∀x∈(T.map λr=>Value.ref r.2),∃r∈T,x=Value.ref r.2:=λx hx=>by obtain⟨r,hr,e⟩:=aQ.mp hx;exact⟨r,hr,e.symm⟩
 have ew:∀T':List (α×BF),(∀r∈T',r∈T)->(T'.map λr=>Value.ref r.2).map rkW=(T'.map λr=>r.1).map rk:=λT' h=>by rw[aV,aV];exact cF λr hr=>hrk r<|h r hr
 have hok':∀t:BE,(∀b o,s.heap.get? b=some o->t.heap.get? b=some o)->HOk X.prog X.w H t.heap:=λt k=>aAi (cs:=[]) I.hok (λb u _ g=>k b u g) λb hb=>(eX hb).elim
 refine aCt (l:=a) (vs:=T.map λr=>Value.ref r.2) (κ:=tuples' false) (rk:=rkW) ⟨_,eo,rfl,n,rfl⟩ (by rw[ew T λ_ h=>h];exact M.nd) (by rw[aC];exact lT) (λt kp h2 A' R E' _ hR=> ?_) (λt kp x hx y hy A' R E' hA hR=> ?_) λout p1 p2=> ?_
 ·have ok:=hok' t kp
  have kt:∀T':List (α×BF),(∀r∈T',r∈T)->∃fs:List BD,KatTups t.heap (T'.map λr=>Value.ref r.2) fs/\fs.length=T'.length/\∀v∈fs,∃c o,v=.ref c/\t.heap.get? c=some o/\o.cls=.type "tuple":=λT'=>by
   induction T' with
   |nil=>exact λ_=>⟨[],.nil,rfl,λv hv=>(eX hv).elim⟩
   |cons r T' ih=>
    intro h;obtain⟨fs,k,l,i⟩:=ih λr hr=>h r<|aE _ hr
    have rr:=tr r<|h r aG;obtain⟨b,ys,its,e1,e2,r2,v2,o,g,c,n',hd1⟩:=iJ ok rr (show RelV (.ref r.2) (.ref r.2) from rfl);cases e1;cases e2;have r2:RepL X.K H [.tup<|hd r.1,sn r.1] ys:=r2;obtain⟨w1,ys1,rfl,q1,t1⟩:=r2.uncons;obtain⟨w2,ys2,rfl,q2,t2⟩:=t1.uncons;simp only[RepL] at t2;subst t2;obtain⟨c1,rfl⟩:=aEe q1;cases v2 with
    |cons ru1 v2=>
     cases ru1;obtain⟨b1,ys1,its1,e3,e4,_,_,o1,g1,cc1,_⟩:=iJ ok q1 (show RelV (.ref c1) (.ref c1) from rfl);cases e3;refine⟨.ref c1::fs,KatTups.cons g c hd1 (by simp) k,by rw[bD,bD,l],λv hv=> ?_⟩
     rcases bA.mp hv with rfl|hv
     ·cases e4;exact⟨_,o1,rfl,g1,cc1⟩
     ·exact i v hv
  obtain⟨fs,k,l,i⟩:=kt T λ_ h=>h
  rw[aC] at h2;refine kat_kind (T:=.type "tuple") k (by omega) (λv hv=> ?_) rfl hR;obtain⟨c,o,rfl,g,e⟩:=i v hv;have:PySem.W.Looks (AG X.prog X.w) t.heap (typeOf<|.ref c) o.cls:=(PySem.W.Looks.ld g).andThen .now;rw[e] at this;exact this
 ·have ok:=hok' t kp;obtain⟨rx,hrx,rfl⟩:=mv x hx;obtain⟨ry,hry,rfl⟩:=mv y hy;obtain⟨b,ys,its,e1,e2,r2,v2,o,g,c,n',hd1⟩:=iJ ok (tr rx hrx) (show RelV (.ref rx.2) (.ref rx.2) from rfl);cases e1;cases e2;obtain⟨b',ys',its',e1,e2,r2',v2',o',g',c',n'',hd'⟩:=iJ ok (tr ry hry) (show RelV (.ref ry.2) (.ref ry.2) from rfl);cases e1;cases e2;have r2:RepL X.K H [.tup<|hd rx.1,sn rx.1] ys:=r2;have r2':RepL X.K H [.tup<|hd ry.1,sn ry.1] ys':=r2';have l1:its.length=2:=by rw[<-v2.length,r2.len];rfl
  have l2:its'.length=2:=by rw[<-v2'.length,r2'.len];rfl
  refine kat_lt g hd1 g' hd'<|aKG (A:=A') (b:=pB [.tup<|hd rx.1,sn rx.1] [.tup<|hd ry.1,sn ry.1]) ?_ ?_
  ·refine aDd ok [.tup<|hd rx.1,sn rx.1] (es:=[.tup<|hd ry.1,sn ry.1]) ?_ ?_ ?_ r2 r2' v2 v2' ?_ (by simp[l1,l2])
   ·exact M.cm _ (mT hrx) _<|mT hry
   ·exact M.pl _<|mT hrx
   ·exact M.pl _<|mT hry
   ·have:=M.un;have:=M.dp _<|mT hrx;omega
  ·have e:pB [.tup<|hd rx.1,sn rx.1] [.tup<|hd ry.1,sn ry.1]=decide (rkW (.ref rx.2)<rkW (.ref ry.2)):=by rw[hrk rx hrx,hrk ry hry];exact M.lt _ (mT hrx) _ (mT hry)
   rw[e];exact hR
 ·obtain⟨T',q1,q2⟩:=aAb (f:=λr:α×BF=>Value.ref r.2) (l:=T) (l':=out.toList) p1
  have eo2:out=(T'.map λr=>Value.ref r.2).toArray:=by apply sX.mp;rw[q2]
  rw[q2,ew T' λr hr=>q1.mem_iff.mp hr] at p2;subst eo2;obtain⟨kp,n2,g2⟩:=aGT s.heap (T.map λr=>Value.ref r.2) (T'.map λr=>Value.ref r.2).toArray;have hD:H (s.heap.objs.size+1)=none:=I.hok.fresh<|gM _;have lT':T'.length=T.length:=q1.length_eq
  have vv:Vals (T'.map λr=>V.ref r.2) (T'.map λr=>Value.ref r.2):=by
   generalize T'=U
   induction U with
   |nil=>exact .nil
   |cons r U ih=>exact .cons rfl ih
  have I3:Inv X pins σ (upd H (s.heap.objs.size+1) (.lst<|T'.map λr=>V.ref r.2)) {s with heap:=sortedAll s.heap (T.map λr=>Value.ref r.2) (T'.map λr=>Value.ref r.2).toArray}:=
   I.laid (t':=s.toks) kp (gM _) ⟨by rw[Aq,aC];omega,_,n2,vv,by simpa[Ah] using g2⟩
  refine⟨.ref<|s.heap.objs.size+1,_,I3,rfl,q _ (T'.map λr=>V.ref r.2) (T'.map λr=>r.1) hD (q1.map _) p2 λF rF=> ?_⟩
  have all:∀ {U:List (α×BF)},RepL X.K F ((U.map λr=>r.1).map<|srE hd sn) (U.map λr=>V.ref r.2)->∀r∈U,Rep X.K F ((srE hd sn) r.1) (.ref r.2):=λ{U}=>by
   induction U with
   |nil=>exact λ_ r hr=>(eX hr).elim
   |cons y U ih=>
    intro h r hr;rw[aW,aW,aW] at h;obtain⟨v,vs,e,a1,a2⟩:=h.uncons;cases e
    rcases bA.mp hr with rfl|hr
    ·exact a1
    ·exact ih a2 r hr
  have aT:=all rF;have rT:∀r∈T',Rep X.K F ((srE hd sn) r.1) (.ref r.2):=λr hr=>aT r<|q1.mem_iff.mp hr
  clear vv I3 g2 p2 q1 q2 p1 lT' kp
  induction T' with
  |nil=>exact .nil
  |cons r U ih=>exact .cons (rT r aG) (ih λq hq=>rT q<|aE _ hq)
theorem SrtP.gen{ps:List Pr2}{rk:Pr2→Nat}(M:SrtP A ps rk):aPy A K (fun x:Pr2=>x.1.map D.int) (fun x=>bP x.2) ps rk:=⟨M.len,M.lt,M.nd,M.un,fun x _=>aOu x,fun x _ y _=>aNt x y,fun x _=>by
 have:=aNf x;have:lA [bP x.1,bP x.2]+1=2:=this;show lA [bP x.1,bP x.2]<=4
 omega,λF x y v h1 h2=>aCp h1 h2⟩
theorem aBK:mL X (.builtin "sorted") (fun vs H Q=>∃ (a:BF) (xs:List V) (ps:List Pr2) (rk:Pr2→Nat),vs=[.ref a]∧H a=some (.lst xs)∧RepL X.K H (ps.map p2D) xs∧SrtP X.A ps rk∧
  ∀ (D:BF) (ys:List V) (qs:List Pr2),H D=none->qs.Perm ps->(qs.map rk).Pairwise (·<·)->(∀F,RepL X.K F (ps.map p2D) xs->RepL X.K F (qs.map p2D) ys)->Q (.ref D) (upd H D (.lst ys))):=by
 intro pins s σ H vs us Q I r h;obtain⟨a,xs,ps,rk,h1,h2,h3,M,q⟩:=h;exact aCj pins s σ H vs us Q I r ⟨a,xs,ps,rk,h1,h2,h3,M.gen,q⟩
variable {k:List Key}{E:hW}{ps:List Pr2}{rk:Pr2->Nat}
theorem aGh(i j n:Nat){y:Str}{px py ap:Pos}(hu:X.A.units+1<AS)(hg:Gl X "sorted")(hm:X.mg "sorted"=none)(hs:sd[i]? =some (odG X.prog X.w X.K l ks ls dss))(hx:PE X (.Name x px) (iI i))(hb:PEd X sd b (.val (.tup<|k.map kD)))(hk:ks[n]? =some k)(hd:dss[n]? =some (ps.map p2D))(M:SrtP X.A ps rk)
  (hN:X.N.Nodup) (hj:X.N[j]? =some y) (hy:Loc X.env.scope y)
  (hE:∀ (l':BF) (qs:List Pr2),qs.Perm ps->(qs.map rk).Pairwise (·<·)->E.nx ((sd.set i (odG X.prog X.w X.K l (ks.eraseIdx n) (ls.eraseIdx n)<|dss.eraseIdx n)).set j (.own l'<|qs.map p2D)))
  (hpop:PE X (.Call (.Attribute (.Name x px) "pop" ap) [b] [] cp) (λσ H Q=>iI i σ H λv H1=>(∃l ob,v=.ref l/\H1 l=some (exO l ob)/\ob.ExactDict)/\(nV (wE X b) aFG) σ H1 λxs H2=>aPk X v xs H2 Q):=by exact aLH zC aAE PySem.F.type_dict_pop aMZ (pv _) (cY eR pa_nil))
  (hst:AB [.Call (.Attribute (.Name x px) "pop" ap) [b] [] cp] X.env=(false,eval (.Call (.Attribute (.Name x px) "pop" ap) [b] [] cp) X.env)::AB [] X.env:=by rfl)
  (hsw:AY (.Call (.Name "sorted" p) [.Call (.Attribute (.Name x px) "pop" ap) [b] [] cp] [] p2) (some<|.Name y py) pos.line X.env=pure false:=by rfl)
  (hf:X.fn y=true\/X.env.scope.names.lookup y=some .local:=by first|exact .inl rfl|exact .inr rfl|assumption):
  PSd1 X sd (.Assign [.Name y py] (.Call (.Name "sorted" p) [.Call (.Attribute (.Name x px) "pop" ap) [b] [] cp] [] p2) pos) E:=.mk λσ F H S=>
 (pN hN hj hy (nJ aBK hg hm boot_sorted (cY hpop pa_nil hst) (by decide) (by decide) hst rfl) hsw hf).to (by
  obtain⟨h1,h2,⟨o,h3,nc,hk2,td⟩,h4,h5⟩:=gP S hs;refine⟨.ref l,h1,⟨l,o,rfl,h3,td.2.2.choose_spec.2.choose_spec.choose_spec.1⟩,(hb σ F H S).imp λv1 H1 ⟨F1,S1,s1,q1⟩=> ?_⟩;obtain⟨g1,g2,⟨o2,g3,nc2,hk3,td2⟩,g4,g5⟩:=gP S1 hs;obtain⟨n1,n2⟩:=bS.mp g5;simp only[ResOk,Rep] at q1;obtain⟨ad,ys,rfl,ha,rl⟩:=q1;rw[nK rl] at ha;have nl:n<ls.length:=by have:=(aD.mp hk).1;omega
  have e3:ls[n]? =some ls[n]:=by simp[nl]
  generalize ls[n]=an at e3;obtain⟨ds,xs,d1,d2,d3⟩:=g4.get e3;rw[hd] at d1;cases d1;have anl:an≠l:=λz=>n1<|z▸aY e3
  have zg:(ks.zip<|ls.map V.ref)[n]? =some (k,V.ref an):=by rw[aAd];exact⟨hk,by rw[aZ,e3];rfl⟩
  refine⟨F1,l,ad,k,.ref an,n,o2,ks.zip<|ls.map V.ref,rfl,rfl,S1.sub,g3,ha,hu,td2,zg,λo' nc' td'=> ?_⟩;have S2:=S1.popG n hs nc' td';refine⟨an,xs,ps,rk,rfl,by rw[aR anl];exact d2,d3.mono S2.sub,M,λD ys qs hD pm pw hr=> ?_⟩;obtain⟨S3,fp,no⟩:=S2.layO (xs:=ys) hD
  exact⟨_,F1,S3.setO j fp bJ (hr F1 d3) no,s1,hE D qs pm pw⟩)
theorem InD.snocL{K:aA}{F H:Hp}{a:BF}{ds:List D}{xs:List V}:∀ {as:List BF}{dss:List (List D)},InD K F H as dss->H a=some (.lst xs)->RepL K F ds xs->InD K F H (as++[a]) (dss++[ds])
 |[],[],_,e,r=>⟨⟨xs,e,r⟩,trivial⟩
 |[],_::_,h,_,_=>h.elim
 |_::_,[],h,_,_=>h.elim
 |_::_,_::_,h,e,r=>⟨h.1,InD.snocL h.2 e r⟩
theorem StF.newW{a:BF}{o:BI}{xs:List V}(S:StF K H₀ F H σ sd)(hs:sd[i]? =some (odG P w K l ks ls dss))(fa:F a=none)(ha:H a=some (.lst xs))(rl:RepL K F ds xs)(na:a∉bU sd)(nc:∀v,o.data≠ .cell v)(td:TDo P w F l o (ks.zip (ls.map V.ref)++[(k,.ref a)])):
  StF K H₀ F (upd H l<|exO l o) σ (sd.set i (odG P w K l (ks++[k]) (ls++[a])<|dss++[ds])):=by
 obtain⟨g1,g2,⟨o',g3,nc',hl,_⟩,g4,g5⟩:=gP S hs;obtain⟨n1,n2⟩:=bS.mp g5;have ml:∀b∈l::ls,b∈bU sd:=λb hb=>aEM hs hb
 have al:a≠l:=λz=>na<|z▸ml l aG
 have als:a∉ls:=λz=>na (ml a<|aE _ z)
 have sp:∀b,b∈l::(ls++[a])->b∈l::ls\/b=a:=λb hb=>by
  rcases bA.mp hb with h|h
  ·exact .inl<|h▸aG
  ·rcases aU.mp h with h|h
   ·exact .inl<|aE _ h
   ·exact .inr<|aH.mp h
 refine S.reX (z':=odG P w K l (ks++[k]) (ls++[a])<|dss++[ds]) hs g1 (λb ob hb q=> ?_) (mG S.smp l) (uR (λb hb=> ?_) bJ nc (by rw[aN,aN,hl];rfl) ?_ ?_) ?_ λb hb=> ?_
 ·rw[aR (show b≠l from λz=>hb<|z▸aG)];exact q
 ·rcases sp b hb with h|rfl
  ·exact g2 b h
  ·exact fa
 ·rw[bK,aW,eF,rQ<|by rw[aC];exact hl];exact td
 ·refine InD.snocL (g4.mono2 (Same.refl _) λb hb ob q=> ?_) ?_ rl
  ·rw[aR (show b≠l from λz=>n1<|z▸hb)];exact q
  ·rw[aR al];exact ha
 ·show(l::(ls++[a])).Nodup;refine bS.mpr ⟨λh=> ?_,bE.mpr ⟨n2,by simp,λb hb c hc e=>als<|aH.mp hc▸e▸hb⟩⟩
  rcases aU.mp h with h|h
  ·exact n1 h
  ·exact al (aH.mp h).symm
 ·rcases sp b hb with h|rfl
  ·exact .inl h
  ·exact .inr na
theorem aHd(i:Nat){q1 q2 tp:Pos}{c c':Int}{j1 j2 x1:Nat}(hu:X.A.units+1<AS)(hs:sd[i]? =some (odG X.prog X.w X.K l ks ls dss))(hx:PE X (.Name x p) (iI i))(h:PEd X sd e (.own ds))(hk:([Sum.inl c,Sum.inl c']:List Key)∉ks)(hl:dss.length<=10000)
  (hE:∀a,E.nx<|sd.set i (odG X.prog X.w X.K l (ks++[[Sum.inl c,Sum.inl c']]) (ls++[a])<|dss++[ds]))
  (hb:PE X (.Tuple [.Constant (.int c) j1 q1, .Constant (.int c') j2 q2] x1 tp) (aPv (nV (tC<|.int c)<|nV (tC<|.int c') aFG)):=by exact aHA (cY pe_int<|cY pe_int pa_nil))
  (hsw:AY e (some<|.Subscript (.Name x p) (.Tuple [.Constant (.int c) j1 q1, .Constant (.int c') j2 q2] x1 tp) p2) pos.line X.env=pure false:=by rfl):PSd1 X sd (.Assign [.Subscript (.Name x p) (.Tuple [.Constant (.int c) j1 q1, .Constant (.int c') j2 q2] x1 tp) p2] e pos) E:=.mk λσ F H S pins s I=>by
 refine wpAny_Assign_Subscript (thn (h σ F H S pins s I) λr s1 ⟨v,H1,I1,rv,F1,S1,sF1,q1⟩=> ?_) hsw;obtain⟨a,xs,rfl,fa,ha,rl,na⟩:=q1;obtain rfl:r=Value.ref a:=rv;obtain⟨h1,_⟩:=gP S1 hs;refine thn (hx pins s1 σ H1 (λv H2=>v=.ref l/\H2=H1) I1 ⟨.ref l,h1,rfl,rfl⟩) λu s2 ⟨y,H2,I2,ry,e1,e2⟩=> ?_
 subst e1 e2;obtain rfl:u=Value.ref l:=ry;refine thn (hb pins s2 σ H2 (λv H3=>∃ad,v=.ref ad/\H2 ad=none/\H3=upd H2 ad (.tup [.int c,.int c'])) I2 ⟨by show 2<=AM;decide,λad had=>⟨ad,rfl,had,rfl⟩⟩) λiv s3 ⟨y,H3,I3,ry,ad,e1,fad,e3⟩=> ?_
 subst e1 e3;obtain rfl:iv=Value.ref ad:=ry;obtain⟨S3,sF3⟩:=S1.lay (o:=.tup [.int c,.int c']) fad trivial;have ada:a≠ad:=λz=>by rw[z,fad] at ha;cases ha
 have fa3:upd F1 ad (.tup [.int c,.int c']) a=none:=by rw[aR ada];exact fa
 have ha3:upd H2 ad (.tup [.int c,.int c']) a=some (.lst xs):=by rw[aR ada];exact ha
 obtain⟨g1,g2,⟨o,g3,nc,hkl,z,hm,ts,kt,es,ep,t1,t2,t3,t4⟩,g4,g5⟩:=gP S3 hs;have had:upd F1 ad (.tup [.int c,.int c']) ad=some (.tup<|([Sum.inl c,Sum.inl c']:List Key).map kV):=bJ;have ho:s3.heap.get? l=some o:=(I3.hok l _ g3).1;have ktH:=kt.keeps λb ys e=>S3.sub _ _ e
 have dd:s3.heap.DictOfH (Af<|eA X.prog X.w) l ts:=⟨o,es,ep,ho,t1,t2,t3,KT.all I3.hok ktH,t4⟩;have hz:ts.length<=AM:=by rw[<-Paired.length kt];exact z
 have zl:(ks.zip<|ls.map V.ref).length=dss.length:=by rw[jD,aC,<-hkl,oI,hkl,g4.len]
 have vn:iO (ks.zip<|ls.map V.ref) [Sum.inl c,Sum.inl c']=none:=yL hk λ_ z=>z
 have hl2:(qX (ks.zip<|ls.map V.ref) [Sum.inl c,Sum.inl c']<|.ref a).length<=AM:=by rw[qC _ vn,aN,zl];have:=eV hl;show dss.length+1<=AM;omega
 refine wpAny_setItem_heap (hsz:=hz) (Ad hu) (lU I3.hok<|S3.sub _ _ had) dd λh' dd' hsm=> ?_
 obtain⟨q,es',ep',hq,u2,u3,u4,_,u5⟩:=dd';have I4:=oQ (t':=s3.toks+(Af<|eA X.prog X.w).draws [Sum.inl c,Sum.inl c']) I3 (ob:=exO l q) (by rw[g3];exact True.intro) hsm ⟨q,hq⟩<|nQ hq;have kt':=kt.put [Sum.inl c,Sum.inl c'] had (show RelV (.ref a) (.ref a) from rfl);rw[qC _ vn] at kt' hl2;exact⟨σ,_,I4,_,_,S3.newW (o:=q) (k:=[Sum.inl c,Sum.inl c']) hs fa3 ha3 (rl.mono sF3) na (λv z=>by rw[u3] at z;cases z) ⟨hl2,hm,_,kt',es',ep',u2,u3,u4,u5⟩,sF1.trans sF3,hE a⟩
noncomputable def rkK(r:Int×Int):List Key:=[Sum.inl r.1,Sum.inl r.2]
theorem aJt{a b:Int×Int}(h:rkK a=rkK b):a=b:=by
 unfold rkK at h;injection h with h1 h2
 injection h2 with h2 _
 injection h1 with h1
 injection h2 with h2
 exact Prod.ext h1 h2
noncomputable abbrev WtT:=List<|(Int×Int)×List Pr2
structure Wt where
 l:BF
 ls:List BF
 T:WtT
noncomputable def wtK(T:WtT):List (List Key):=T.map λt=>rkK t.1
noncomputable def wtD(T:WtT):List (List D):=T.map λt=>t.2.map p2D
noncomputable def wtS(P:AE)(w:AL)(K:aA)(a:Wt):Slot:=odG P w K a.l (wtK a.T) a.ls<|wtD a.T
noncomputable def wtL(P:AE)(w:AL)(K:aA):Lent K:=⟨Wt,Wt.l,λa=>a.l::a.ls,λa=>Gg P w K a.l (wtK a.T) a.ls<|wtD a.T,λh=>h.1⟩
theorem aGG(P:AE)(w:AL)(K:aA)(a:Wt)(v:V)(F H:Hp)(b:BF)(o:HO)(h:(wtL P w K).G a v F H)(hb:b∈(wtL P w K).own a)(e:H b=some o):¬ mY o:=by
 obtain⟨_,⟨ob,g,_⟩,hI⟩:=h
 rcases bA.mp (show b∈a.l::a.ls from hb) with rfl|hb
 ·rw[g] at e;cases e;exact λz=>z
 ·obtain⟨xs,g2⟩:=InD.of hI b hb;rw[g2] at e;cases e;exact λz=>z
noncomputable def jM:WtT->Int×Int->Pr2->WtT
 |[],r,x=>[(r,[x])]
 |t::T,r,x=>if t.1=r then(t.1,t.2++[x])::T else t::jM T r x
theorem wB{r:Int×Int}(x:Pr2):∀ {T:WtT},rkK r∉wtK T->jM T r x=T++[(r,[x])]
 |[],_=>rfl
 |t::T,h=>by
  have h1:t.1≠r:=λe=>h (by unfold wtK;rw[aW,e];exact aG)
  show(if t.1=r then _ else t::jM T r x)=_;rw[if_neg h1,wB x (T:=T) λz=>h<|aE _ z];rfl
theorem uU{r:Int×Int}(x:Pr2):∀ {T:WtT}{n:Nat}{ds:List D},(wtK T).Nodup->(wtK T)[n]? =some (rkK r)->(wtD T)[n]? =some ds->wtK (jM T r x)=wtK T/\wtD (jM T r x)=(wtD T).set n (ds++[p2D x])
 |[],n,ds,_,h,_=>by simp[wtK] at h
 |t::T,0,ds,nd,h,hd=>by
  have e:t.1=r:=aJt (by simpa[wtK] using h);have e2:t.2.map p2D=ds:=by simpa[wtD] using hd
  have ea:jM (t::T) r x=(t.1,t.2++[x])::T:=if_pos e;rw[ea];refine⟨rfl, ?_⟩;show((t.2++[x]).map p2D)::wtD T=((t.2.map p2D)::wtD T).set 0 _;rw[bK,e2];rfl
 |t::T,n+1,ds,nd,h,hd=>by
  have nd':=bS.mp (show(rkK t.1::wtK T).Nodup from nd);have h':(wtK T)[n]? =some (rkK r):=by simpa[wtK] using h
  have hd':(wtD T)[n]? =some ds:=by simpa[wtD] using hd
  have ne:t.1≠r:=λe=>nd'.1<|e▸aY h'
  have ea:jM (t::T) r x=t::jM T r x:=if_neg ne;obtain⟨k1,k2⟩:=uU x nd'.2 h' hd';rw[ea];refine⟨by show rkK t.1::wtK (jM T r x)=rkK t.1::wtK T;rw[k1], ?_⟩;show t.2.map p2D::wtD (jM T r x)=(t.2.map p2D::wtD T).set (n+1) _;rw[k2];rfl
theorem aKn{r:Int×Int}(x:Pr2){T:WtT}(nd:(wtK T).Nodup):(wtK<|jM T r x).Nodup:=by
 by_cases h:rkK r∈wtK T
 ·obtain⟨n,hn⟩:=dO h
  have ln:n<T.length:=by have:=(aD.mp hn).1;simpa[wtK] using this
  obtain⟨ds,hd⟩:∃ds,(wtD T)[n]? =some ds:=⟨_,by unfold wtD;rw[aZ,fA ln];rfl⟩;rw[(uU x nd hn hd).1];exact nd
 ·rw[wB x h];unfold wtK;rw[bK];refine bE.mpr ⟨nd,by simp,λa ha b hb e=>h ?_⟩;have q:b=rkK r:=by simpa using hb
  rw[<-q,<-e];exact ha
noncomputable def tot(T:WtT):Nat:=(T.map λt=>t.2.length+1).sum
theorem aDS(r:Int×Int)(x:Pr2):∀T:WtT,tot (jM T r x)<=tot T+2
 |[]=>by simp[tot,jM]
 |t::T=>by
  have ih:=aDS r x T;show tot (if t.1=r then(t.1,t.2++[x])::T else t::jM T r x)<=_
  split
  ·simp[tot];omega
  ·simp[tot] at ih ⊢;omega
theorem aJV(T:WtT):T.length<=tot T:=by
 induction T with
 |nil=>exact aJ _
 |cons t T ih=>simp[tot] at ih ⊢;omega
theorem aJh{T:WtT}:∀ds∈wtD T,ds.length<=tot T:=by
 induction T with
 |nil=>exact λds h=>(eX h).elim
 |cons t T ih=>
  intro ds h
  rcases bA.mp (show ds∈t.2.map p2D::wtD T from h) with rfl|h
  ·rw[aC];simp[tot];omega
  ·have:=ih ds h;simp[tot] at this ⊢;omega
noncomputable def nP(x:List Nat×List Nat):Pr2:=(x.1.map λ(i:Nat)=>(i:Int),x.2.map λ(i:Nat)=>(i:Int))
theorem aOc(x:List Nat×List Nat):p2D (nP x)=.tup [.tup<|bT x.1,.tup<|bT x.2]:=by unfold p2D nP bP bT;rw[aV,aV];rfl
noncomputable def lgQ(p:Int×Int)(L:List SK)(b:Int)(r:Int×Int)(row nb:List Nat):Nat->WtT->WtT
 |0,T=>T
 |t+1,T=>if r.1+(L.getD t AQ).2<=b then jM (lgQ p L b r row nb t T) (r.1+(L.getD t AQ).2,r.2+1) (nP (row++[t],iN (jA p (L.getD t AQ).1) nb)) else lgQ p L b r row nb t T
theorem aFR{p:Int×Int}{L:List SK}{b:Int}{r:Int×Int}{row nb:List Nat}{T:WtT}(nd:(wtK T).Nodup):∀t,(wtK<|lgQ p L b r row nb t T).Nodup
 |0=>nd
 |t+1=>by
  unfold lgQ
  split
  ·exact aKn _<|aFR nd t
  ·exact aFR nd t
theorem aHR{p:Int×Int}{L:List SK}{b:Int}{r:Int×Int}{row nb:List Nat}{T:WtT}:∀t,tot (lgQ p L b r row nb t T)<=tot T+2*t
 |0=>aJ _
 |t+1=>by
  have ih:=aHR (p:=p) (L:=L) (b:=b) (r:=r) (row:=row) (nb:=nb) (T:=T) t;unfold lgQ
  split
  ·have:=aDS (r.1+(L.getD t AQ).2,r.2+1) (nP (row++[t],iN (jA p (L.getD t AQ).1) nb))<|lgQ p L b r row nb t T;omega
  ·omega
def aOe(a:Wt)(ds:List D)(post:Wt->Prop):Prop:=∃p L b r row nb,p∈bW/\L.length<=100/\NOk p nb/\row.length<=400/\(wtK a.T).Nodup/\tot a.T+2*L.length<=9000/\ds=[.lst (L.map<|mvD p),.int b,.tup [.int r.1,.int r.2],.tup<|bT row,.tup<|bT nb]/\post=λa'=>a'.l=a.l/\a'.T=lgQ p L b r row nb L.length a.T
noncomputable def unP(y:Pr2):List Nat×List Nat:=(y.1.map pQ,y.2.map pQ)
theorem aDf(x:List Nat×List Nat):unP (nP x)=x:=by
 have g:∀l:List Nat,(l.map λ(i:Nat)=>(i:Int)).map pQ=l:=λl=>by rw[aV];exact(cF λi _=>dJ i).trans<|kI l
 unfold unP nP;exact Prod.ext (g x.1)<|g x.2
structure FdS where
 T:WtT
 kn:List (List Nat)
 fd:List (Int×List Nat×List Nat)
noncomputable def fdI(p:Int×Int)(L:List SK)(b:Int)(r:Int×Int)(S:FdS)(x:List Nat×List Nat):FdS:=if x.2∈S.kn then S else⟨lgQ p L b r x.1 x.2 L.length S.T,S.kn++[x.2],S.fd++[(r.1,x.1,x.2)]⟩
noncomputable def fdP(p:Int×Int)(L:List SK)(b:Int)(r:Int×Int)(S:FdS)(xs:List Pr2):FdS:=xs.foldl (λS y=>fdI p L b r S<|unP y) S
theorem uS(p:Int×Int)(L:List SK)(b:Int)(r:Int×Int)(S:FdS)(xs:List Pr2)(y:Pr2):fdP p L b r S (xs++[y])=fdI p L b r (fdP p L b r S xs) (unP y):=by unfold fdP;rw[fG];rfl
structure aOp(S:FdS):Prop where
 nk:(wtK S.T).Nodup
 kn:S.kn=S.fd.map λe=>e.2.2
 nd:S.kn.Nodup
theorem aNr{p:Int×Int}{L:List SK}{b:Int}{r:Int×Int}{S:FdS}(h:aOp S)(x:List Nat×List Nat):aOp (fdI p L b r S x):=by
 unfold fdI
 split
 ·exact h
 ·rename_i q;refine⟨aFR h.nk _, ?_,bE.mpr ⟨h.nd,by simp,λa ha c hc e=>q ?_⟩⟩
  ·show S.kn++[x.2]=(S.fd++[(r.1,x.1,x.2)]).map _;rw[bK,<-h.kn];rfl
  ·have hc:c=x.2:=by simpa using hc
   rw[<-hc,<-e];exact ha
def rlt(r s:Int×Int):Prop:=r.1<s.1\/(r.1=s.1/\r.2<s.2)
instance (r s:Int×Int):Decidable (rlt r s):=inferInstanceAs (Decidable<|_\/_)
noncomputable def rkD(r:Int×Int):D:=.tup [.int r.1,.int r.2]
theorem aIu(r s:Int×Int):dlt (rkD r) (rkD s)=decide (rlt r s):=by
 have e:dlt (rkD r) (rkD s)=(if deq (.int r.1) (.int s.1)=true then(if deq (.int r.2) (.int s.2)=true then false else decide (r.2<s.2)) else decide (r.1<s.1)):=rfl;have d:∀a b:Int,deq (.int a) (.int b)=decide (a=b):=λa b=>rfl
 rw[e,d,d];unfold rlt
 by_cases h1:r.1=s.1
 ·by_cases h2:r.2=s.2
  ·simp[h1,h2]
  ·simp[h1,h2]
 ·have:¬ (r.1=s.1/\r.2<s.2):=λz=>h1 z.1
  simp[h1]
theorem tV(bt:Nat->Nat->Bool):∀k,Ac bt k<=k
 |0=>aJ _
 |k+1=>by
  show(if bt (k+1) (Ac bt k)=true then k+1 else Ac bt k)<=k+1
  split
  ·exact aJ _
  ·exact Nat.le_succ_of_le<|tV bt k
theorem uO(rs:List (Int×Int)):∀k,k<rs.length->∀j,j<=k->¬ rlt (rs.getD j (0,0)) (rs.getD (Ac (λi k=>decide (rlt (rs.getD i (0,0))<|rs.getD k (0,0))) k) (0,0))
 |0,_,j,hj=>by
  have:j=0:=by omega
  subst this;show ¬ rlt _ (rs.getD 0 (0,0));unfold rlt;omega
 |k+1,hk,j,hj=>by
  have ih:=uO rs k (by omega);generalize hb:Ac (λi k=>decide (rlt (rs.getD i (0,0))<|rs.getD k (0,0))) k=bk at ih
  have e:Ac (λi k=>decide (rlt (rs.getD i (0,0))<|rs.getD k (0,0))) (k+1)=if decide (rlt (rs.getD (k+1) (0,0))<|rs.getD bk (0,0))=true then k+1 else bk:=by rw[<-hb];rfl
  rw[e]
  by_cases q:rlt (rs.getD (k+1) (0,0)) (rs.getD bk (0,0))
  ·rw[if_pos<|decide_eq_true q]
   by_cases hjk:j=k+1
   ·subst hjk;unfold rlt;omega
   ·have:=ih j (by omega);unfold rlt at *;omega
  ·rw[if_neg<|by rw[decide_eq_false q];decide]
   by_cases hjk:j=k+1
   ·subst hjk;exact q
   ·exact ih j<|by omega
theorem pK{bt bt':Nat->Nat->Bool}:∀k,(∀i j,i<=k->j<=k->bt i j=bt' i j)->Ac bt k=Ac bt' k
 |0,_=>rfl
 |k+1,h=>by
  have ih:=pK k λi j hi hj=>h i j (by omega)<|by omega
  show(if bt (k+1) (Ac bt k)=true then k+1 else Ac bt k)=(if bt' (k+1) (Ac bt' k)=true then k+1 else Ac bt' k);have:=tV bt' k;rw[ih,h (k+1) (Ac bt' k) (aJ _)<|by omega]
theorem aMr(hu:X.A.units+4<AS){T:WtT}(hne:T≠[]):aIT X ((wtK T).map mV)/\∃t:(Int×Int)×List Pr2,T[jO<|(wtK T).map mV]? =some t/\((wtK T).map mV)[jO<|(wtK T).map mV]? =some (rkD t.1)/\(wtK T)[jO<|(wtK T).map mV]? =some (rkK t.1)/\(wtD T)[jO<|(wtK T).map mV]? =some (t.2.map p2D)/\∀s∈T,¬ rlt s.1 t.1:=by
 have l0:0<T.length:=iV.mpr hne
 have em:(wtK T).map mV=T.map λt=>rkD t.1:=by unfold wtK;rw[aV];rfl
 have ln:((wtK T).map mV).length=T.length:=by rw[em,aC]
 have mem:∀d∈(wtK T).map mV,∃r,d=rkD r:=λd hd=>by rw[em] at hd;obtain⟨t,_,rfl⟩:=aQ.mp hd;exact⟨t.1,rfl⟩
 have gd:∀i,i<T.length->((wtK T).map mV).getD i .non=rkD ((T.map (·.1)).getD i (0,0)):=λi hi=>by rw[em];simp[cK,hi]
 have eb:jO ((wtK T).map mV)=Ac (λi k=>decide (rlt ((T.map (·.1)).getD i (0,0)) ((T.map (·.1)).getD k (0,0)))) (T.length-1):=by unfold jO;rw[ln];exact pK _ λi j hi hj=>by rw[gd i<|by omega,gd j<|by omega,aIu]
 have bl:=tV (λi k=>decide (rlt ((T.map (·.1)).getD i (0,0)) ((T.map (·.1)).getD k (0,0))))<|T.length-1;have bm:=uO (T.map (·.1)) (T.length-1) (by rw[aC];omega);rw[<-eb] at bl bm;generalize jO ((wtK T).map mV)=n at bl bm;have hn:n<T.length:=by omega
 have hT:T[n]? =some T[n]:=fA hn;refine⟨⟨by rw[ln];exact l0,λd hd d2 hd2=> ?_,λd hd=> ?_,λd hd=> ?_⟩,T[n],hT, ?_, ?_, ?_,λs hs=> ?_⟩
 ·obtain⟨r,rfl⟩:=mem d hd;obtain⟨r2,rfl⟩:=mem d2 hd2;rfl
 ·obtain⟨r,rfl⟩:=mem d hd;rfl
 ·obtain⟨r,rfl⟩:=mem d hd;show X.A.units+1+1<AS;omega
 ·rw[em,aZ,hT];rfl
 ·unfold wtK;rw[aZ,hT];rfl
 ·unfold wtD;rw[aZ,hT];rfl
 ·obtain⟨j,hj⟩:=dO hs;have lj:j<T.length:=(aD.mp hj).1;have:=bm j (by omega);have e1:(T.map (·.1)).getD j (0,0)=s.1:=by simp[cK,hj]
  have e2:(T.map (·.1)).getD n (0,0)=T[n].1:=by simp[cK,hn]
  rw[e1,e2] at this;exact this
noncomputable def llt:List Int->List Int->Bool
 |[],[]=>false
 |[],_::_=>true
 |_::_,[]=>false
 |x::a,y::b=>if x=y then llt a b else decide (x<y)
theorem aIJ:∀a b:List Int,pB (a.map D.int) (b.map D.int)=llt a b
 |[],[]=>rfl
 |[],_::_=>rfl
 |_::_,[]=>rfl
 |x::a,y::b=>by
  have e:pB ((x::a).map D.int) ((y::b).map D.int)=if decide (x=y)=true then pB (a.map D.int) (b.map D.int) else decide (x<y):=rfl
  rw[e,aIJ a b];show _=if x=y then llt a b else decide (x<y)
  by_cases h:x=y
  ·rw[if_pos<|decide_eq_true h,if_pos h]
  ·rw[if_neg (by rw[decide_eq_false h];decide),if_neg h]
theorem oN:∀a:List Int,llt a a=false
 |[]=>rfl
 |x::a=>by show(if x=x then llt a a else decide (x<x))=false;rw[if_pos rfl];exact oN a
theorem zS:∀a b:List Int,a≠b->llt a b=true\/llt b a=true
 |[],[],h=>absurd rfl h
 |[],_::_,_=>.inl rfl
 |_::_,[],_=>.inr rfl
 |x::a,y::b,h=>by
  show(if x=y then llt a b else decide (x<y))=true\/(if y=x then llt b a else decide (y<x))=true
  by_cases e:x=y
  ·subst e;rw[if_pos rfl,if_pos rfl];exact zS a b λz=>h (by rw[z])
  ·rw[if_neg e,if_neg λz=>e z.symm,decide_eq_true_iff,decide_eq_true_iff];omega
theorem wF:∀a b c:List Int,llt a b=true->llt b c=true->llt a c=true
 |[],[],_,h,_=>by cases h
 |[],_::_,[],_,h=>by cases h
 |[],_::_,_::_,_,_=>rfl
 |_::_,[],_,h,_=>by cases h
 |_::_,_::_,[],_,h=>by cases h
 |x::a,y::b,z::c,h1,h2=>by
  have h1:(if x=y then llt a b else decide (x<y))=true:=h1;have h2:(if y=z then llt b c else decide (y<z))=true:=h2;show(if x=z then llt a c else decide (x<z))=true
  by_cases e1:x=y
  ·subst e1;rw[if_pos rfl] at h1
   by_cases e2:x=z
   ·subst e2;rw[if_pos rfl] at h2 ⊢;exact wF a b c h1 h2
   ·rw[if_neg e2] at h2 ⊢;exact h2
  ·rw[if_neg e1] at h1;have h1:=of_decide_eq_true h1
   by_cases e2:y=z
   ·subst e2;rw[if_neg e1];exact decide_eq_true h1
   ·rw[if_neg e2] at h2;have h2:=of_decide_eq_true h2;rw[if_neg<|by omega];exact decide_eq_true<|by omega
noncomputable def plt(x y:Pr2):Bool:=if x.1=y.1 then llt x.2 y.2 else llt x.1 y.1
theorem aLJ(a b:List Int):deq (bP a) (bP b)=decide (a=b):=aBn a b
theorem aOS(x y:Pr2):dlt (p2D x) (p2D y)=plt x y:=by
 have e:dlt (p2D x) (p2D y)=if deq (bP x.1) (bP y.1)=true then(if deq (bP x.2) (bP y.2)=true then false else pB (x.2.map D.int) (y.2.map D.int)) else pB (x.1.map D.int) (y.1.map D.int):=rfl
 rw[e,aLJ,aLJ,aIJ,aIJ];unfold plt
 by_cases h:x.1=y.1
 ·rw[if_pos<|decide_eq_true h,if_pos h]
  by_cases h2:x.2=y.2
  ·rw[if_pos<|decide_eq_true h2,h2,oN]
  ·rw[if_neg<|by rw[decide_eq_false h2];decide]
 ·rw[if_neg (by rw[decide_eq_false h];decide),if_neg h]
theorem aJL(x:Pr2):plt x x=false:=by unfold plt;rw[if_pos rfl];exact oN _
theorem aAp{x y:Pr2}(h:x≠y):plt x y=true\/plt y x=true:=by
 unfold plt
 by_cases e:x.1=y.1
 ·rw[if_pos e,if_pos e.symm];exact zS _ _ λz=>h<|Prod.ext e z
 ·rw[if_neg e,if_neg λz=>e z.symm];exact zS _ _ e
theorem aIl{x y z:Pr2}(h1:plt x y=true)(h2:plt y z=true):plt x z=true:=by
 unfold plt at *
 by_cases e1:x.1=y.1
 ·rw[if_pos e1] at h1
  by_cases e2:y.1=z.1
  ·rw[if_pos e2] at h2;rw[if_pos<|e1.trans e2];exact wF _ _ _ h1 h2
  ·rw[if_neg e2] at h2;rw[e1,if_neg e2];exact h2
 ·rw[if_neg e1] at h1
  by_cases e2:y.1=z.1
  ·rw[<-e2,if_neg e1];exact h1
  ·rw[if_neg e2] at h2
   by_cases e3:x.1=z.1
   ·have:=wF _ _ _ h1 h2;rw[e3,oN] at this;cases this
   ·rw[if_neg e3];exact wF _ _ _ h1 h2
noncomputable def rkP(ps:List Pr2)(x:Pr2):Nat:=(ps.filter λy=>plt y x).length
theorem vI{x y:Pr2}(hx:x∈ps)(h:plt x y=true):rkP ps x<rkP ps y:=by
 unfold rkP
 have e:ps.filter (λz=>plt z x)=(ps.filter λz=>plt z y).filter λz=>plt z x:=by
  rw[List.filter_filter];refine List.filter_congr λz _=> ?_
  cases q:plt z x with
  |false=>rfl
  |true=>rw[aIl q h];rfl
 rw[e];refine List.length_filter_lt_length_iff_exists.mpr ⟨x,fV.mpr ⟨hx,h⟩, ?_⟩;rw[aJL];decide
theorem aNd(nd:ps.Nodup)(hl:ps.length<=10000)(hu:A.units+8<AS):SrtP A ps (rkP ps):=by
 have key:∀x∈ps,∀y∈ps,x≠y->rkP ps x≠rkP ps y:=λx hx y hy ne=>by
  rcases aAp ne with h|h
  ·exact bQ<|vI hx h
  ·exact jR<|vI hy h
 refine⟨hl,λx hx y hy=> ?_, ?_,hu⟩
 ·rw[aOS];cases h:plt x y with
  |true=>exact(decide_eq_true<|vI hx h).symm
  |false=>
   refine(decide_eq_false λq=> ?_).symm
   by_cases e:x=y
   ·rw[e] at q;omega
   ·rcases aAp e with z|z
    ·rw[h] at z;cases z
    ·have:=vI hy z;omega
 ·unfold List.Nodup;rw[mO];exact List.Pairwise.imp_of_mem (λ{a b} ha hb h=>key a ha b hb h) nd
noncomputable def aIB(x:Pr2):List Pr2->List Pr2
 |[]=>[x]
 |y::l=>if plt x y then x::y::l else y::aIB x l
noncomputable def gA:List Pr2->List Pr2
 |[]=>[]
 |x::l=>aIB x<|gA l
theorem rO(x:Pr2):∀l,(aIB x l).Perm (x::l)
 |[]=>.refl _
 |y::l=>by
  show(if plt x y then x::y::l else y::aIB x l).Perm _
  split
  ·exact .refl _
  ·exact((rO x l).cons y).trans<|.swap x y l
theorem gK:∀l,(gA l).Perm l
 |[]=>.refl _
 |x::l=>(rO x<|gA l).trans<|(gK l).cons x
theorem aEb{x:Pr2}:∀ {l:List Pr2},x∉l->l.Pairwise (λa b=>plt a b=true)->(aIB x l).Pairwise (λa b=>plt a b=true)
 |[],_,_=>by simp[aIB]
 |y::l,h,p=>by
  obtain⟨p1,p2⟩:=lQ.mp p;show(if plt x y then x::y::l else y::aIB x l).Pairwise _
  by_cases q:plt x y=true
  ·rw[if_pos q];refine lQ.mpr ⟨λz hz=> ?_,p⟩
   rcases bA.mp hz with rfl|hz
   ·exact q
   ·exact aIl q<|p1 z hz
  ·rw[if_neg q];refine lQ.mpr ⟨λz hz=> ?_,aEb (λz=>h<|aE _ z) p2⟩
   rcases bA.mp ((rO x l).mem_iff.mp hz) with rfl|hz
   ·rcases aAp (x:=z) (y:=y) (λe=>h<|e▸aG) with w|w
    ·exact absurd w q
    ·exact w
   ·exact p1 z hz
theorem aAn:∀ {l:List Pr2},l.Nodup->(gA l).Pairwise (λa b=>plt a b=true)
 |[],_=>List.Pairwise.nil
 |x::l,h=>by obtain⟨h1,h2⟩:=bS.mp h;exact aEb (λz=>h1<|(gK l).mem_iff.mp z)<|aAn h2
theorem aJU{qs:List Pr2}(nd:ps.Nodup)(hp:qs.Perm ps)(hs:(qs.map<|rkP ps).Pairwise (·<·)):qs=gA ps:=by refine List.Perm.eq_of_pairwise (le:=λx y=>rkP ps x<rkP ps y) (λx y _ _ h1 h2=>by omega) (by rw[mO] at hs;exact hs) ?_ (hp.trans (gK ps).symm);exact List.Pairwise.imp_of_mem (λ{a b} ha _ h=>vI ((gK ps).mem_iff.mp ha) h)<|aAn nd
noncomputable def eI(T:WtT):Nat:=jO<|(wtK T).map mV
noncomputable def fdT(p:Int×Int)(L:List SK)(b:Int)(S:FdS):FdS:=match S.T[eI S.T]? with
 |none=>S
 |some t=>fdP p L b t.1 {S with T:=S.T.eraseIdx (eI S.T)} (gA t.2)
noncomputable def iP(p:Int×Int)(L:List SK)(b:Int):Nat->FdS->FdS
 |0,S=>S
 |k+1,S=>if S.T=[] then S else iP p L b k (fdT p L b S)
noncomputable def inR(row:List Nat):List Int:=row.map λ(i:Nat)=>(i:Int)
theorem aJN{a b:List Nat}(h:inR a=inR b):a=b:=by
 have:(inR a).map pQ=(inR b).map pQ:=by rw[h]
 have g:∀l:List Nat,(inR l).map pQ=l:=λl=>by unfold inR;rw[aV];exact(cF λi _=>dJ i).trans<|kI l
 rwa[g,g] at this
noncomputable def rwP(y:Pr2):List Nat:=(unP y).1
noncomputable def itP(p:Int×Int)(L:List SK)(row:List Nat):Pr2:=nP (row,nrQ p L row)
theorem pF(p:Int×Int)(L:List SK)(row:List Nat):rwP (itP p L row)=row:=by unfold rwP itP;rw[aDf]
theorem aLZ(p:Int×Int)(L:List SK)(row:List Nat):unP (itP p L row)=(row,nrQ p L row):=aDf _
noncomputable def rkR(L:List SK)(row:List Nat):Int×Int:=(S45.prQ (prK L) row,(row.length:Int))
def klt(L:List SK)(a c:List Nat):Prop:=rlt (rkR L a) (rkR L c)\/(rkR L a=rkR L c/\llt (inR a) (inR c)=true)
def kle(L:List SK)(a c:List Nat):Prop:=a=c\/klt L a c
theorem aMJ{a b c:Int×Int}(h:rlt a b)(h2:rlt b c):rlt a c:=by unfold rlt at *;omega
theorem aJu{a b:Int×Int}(h:a≠b)(h2:¬ rlt b a):rlt a b:=by
 obtain⟨a1,a2⟩:=a;obtain⟨b1,b2⟩:=b;unfold rlt at *;have:¬ (a1=b1/\a2=b2):=λz=>h (by rw[z.1,z.2])
 simp only at *;omega
theorem aKH(L:List SK)(a:List Nat):¬ klt L a a:=by
 rintro(h|⟨_,h⟩)
 ·unfold rlt at h;omega
 ·rw[oN] at h;cases h
theorem aIi{L:List SK}{a b c:List Nat}(h:klt L a b)(h2:klt L b c):klt L a c:=by
 rcases h with h|⟨e,h⟩<;>rcases h2 with h2|⟨e2,h2⟩
 ·exact .inl<|aMJ h h2
 ·exact .inl<|e2▸h
 ·exact .inl<|e▸h2
 ·exact .inr ⟨e.trans e2,wF _ _ _ h h2⟩
theorem aNc{L:List SK}{a b c:List Nat}(h:kle L a b)(h2:kle L b c):kle L a c:=by
 rcases h with rfl|h
 ·exact h2
 ·rcases h2 with rfl|h2
  ·exact .inr h
  ·exact .inr<|aIi h h2
theorem aAZ{x:Int}:∀ {a b:List Int},a.length=b.length->llt a b=true->llt (a++[x]) (b++[x])=true
 |[],[],_,h=>by cases h
 |[],_::_,h,_=>by cases h
 |_::_,[],h,_=>by cases h
 |u::a,v::b,hl,h=>by
  have h:(if u=v then llt a b else decide (u<v))=true:=h;show(if u=v then llt (a++[x]) (b++[x]) else decide (u<v))=true
  by_cases e:u=v
  ·rw[if_pos e] at h ⊢;exact aAZ (by simpa using hl) h
  ·rw[if_neg e] at h ⊢;exact h
theorem oX(L:List SK)(a:List Nat)(k:Nat):rkR L (a++[k])=((rkR L a).1+prK L k,(rkR L a).2+1):=by unfold rkR;rw[S45.pr_snoc,aN];rfl
theorem aHp{L:List SK}{a c:List Nat}(k:Nat)(h:kle L a c):kle L (a++[k]) (c++[k]):=by
 rcases h with rfl|h|⟨e,h⟩
 ·exact .inl rfl
 ·refine .inr<|.inl ?_;rw[oX,oX];unfold rlt at *;simp only;omega
 ·refine .inr (.inr ⟨by rw[oX,oX,e], ?_⟩)
  have el:a.length=c.length:=by have:=congrArg Prod.snd e;have:(a.length:Int)=(c.length:Int):=this;omega
  show llt ((a++[k]).map λ(i:Nat)=>(i:Int)) ((c++[k]).map λ(i:Nat)=>(i:Int))=true;rw[bK,bK];exact aAZ (by rw[aC,aC];exact el) h
noncomputable def wrR(T:WtT):List (List Nat):=T.flatMap λt=>t.2.map rwP
theorem wrR_mem{T:WtT}{row:List Nat}:row∈wrR T↔∃t∈T,∃y∈t.2,rwP y=row:=by
 unfold wrR;rw[dU]
 constructor
 ·rintro⟨t,ht,h⟩;obtain⟨y,hy,e⟩:=aQ.mp h;exact⟨t,ht,y,hy,e⟩
 ·rintro⟨t,ht,y,hy,e⟩;exact⟨t,ht,aQ.mpr ⟨y,hy,e⟩⟩
theorem xV(r:Int×Int)(x:Pr2):∀T:WtT,(wrR<|jM T r x).Perm (rwP x::wrR T)
 |[]=>.refl _
 |t::T=>by
  show(wrR (if t.1=r then(t.1,t.2++[x])::T else t::jM T r x)).Perm _
  split
  ·show((t.2++[x]).map rwP++wrR T).Perm (rwP x::(t.2.map rwP++wrR T));rw[bK,dI];exact nH
  ·show(t.2.map rwP++wrR (jM T r x)).Perm (rwP x::(t.2.map rwP++wrR T));exact((xV r x T).append_left _).trans nH
theorem aBa{r:Int×Int}{x:Pr2}:∀ {T:WtT}{t':(Int×Int)×List Pr2},(∀t∈T,t.2≠[])->t'∈jM T r x->t'.2≠[]/\∀y∈t'.2,(y=x/\t'.1=r)\/∃t∈T,t.1=t'.1/\y∈t.2
 |[],t',_,h=>by
  have:t'=(r,[x]):=by simpa[jM] using h
  subst this;exact⟨by simp,λy hy=>.inl ⟨by simpa using hy,rfl⟩⟩
 |t::T,t',hn,h=>by
  have h:t'∈(if t.1=r then(t.1,t.2++[x])::T else t::jM T r x):=h
  by_cases e:t.1=r
  ·rw[if_pos e] at h
   rcases bA.mp h with rfl|h
   ·refine⟨by simp,λy hy=> ?_⟩
    rcases aU.mp hy with hy|hy
    ·exact .inr ⟨t,aG,rfl,hy⟩
    ·exact .inl ⟨by simpa using hy,e⟩
   ·exact⟨hn _<|aE _ h,λy hy=>.inr ⟨t',aE _ h,rfl,hy⟩⟩
  ·rw[if_neg e] at h
   rcases bA.mp h with rfl|h
   ·exact⟨hn _ aG,λy hy=>.inr ⟨t',aG,rfl,hy⟩⟩
   ·obtain⟨h1,h2⟩:=aBa (λz hz=>hn z<|aE _ hz) h;exact⟨h1,λy hy=>(h2 y hy).imp id λ⟨z,hz,q⟩=>⟨z,aE _ hz,q⟩⟩
variable {p:Int×Int}{L:List SK}{b:Int}{r:Int×Int}{row nb:List Nat}{T:WtT}
noncomputable def chs(L:List SK)(b:Int)(r:Int×Int)(row:List Nat)(n:Nat):List (List Nat):=((bR n).filter λk=>decide<|r.1+prK L k<=b).map λk=>row++[k]
theorem chs_mem{c:List Nat}:c∈chs L b r row n↔∃k,k<n/\r.1+prK L k<=b/\c=row++[k]:=by
 unfold chs;rw[aQ]
 constructor
 ·rintro⟨k,hk,rfl⟩;obtain⟨h1,h2⟩:=fV.mp hk;exact⟨k,cU.mp h1,of_decide_eq_true h2,rfl⟩
 ·rintro⟨k,h1,h2,rfl⟩;exact⟨k,fV.mpr ⟨cU.mpr h1,decide_eq_true h2⟩,rfl⟩
theorem aNp(n:Nat):(chs L b r row n).Nodup:=by unfold chs List.Nodup;rw[mO];refine List.Pairwise.imp (λ{a c} h e=>h ?_) (List.Pairwise.filter _<|List.nodup_range (n:=n));simpa using List.append_cancel_left e
theorem aEn:∀n:Nat,(wrR<|lgQ p L b r row nb n T).Perm (chs L b r row n++wrR T)
 |0=>.refl _
 |n+1=>by
  have ih:=aEn n
  have ec:chs L b r row (n+1)=chs L b r row n++(if r.1+prK L n<=b then[row++[n]] else[]):=by
   unfold chs;rw[List.range_succ,rC,bK];congr 1
   by_cases h:r.1+prK L n<=b
   ·simp[h]
   ·simp[h]
  rw[ec];show(wrR (if r.1+(L.getD n AQ).2<=b then jM _ _ _ else _)).Perm _
  by_cases h:r.1+prK L n<=b
  ·rw[if_pos h,if_pos (show r.1+(L.getD n AQ).2<=b from h)];refine(xV _ _ _).trans ?_
   have e:rwP (nP (row++[n],iN (jA p (L.getD n AQ).1) nb))=row++[n]:=by unfold rwP;rw[aDf]
   rw[e,dI];exact(ih.cons _).trans nH.symm
  ·rw[if_neg h,if_neg (show ¬ r.1+(L.getD n AQ).2<=b from h),bG];exact ih
theorem aAG:∀ (n:Nat) {t':(Int×Int)×List Pr2},(∀t∈T,t.2≠[])->t'∈lgQ p L b r row nb n T->t'.2≠[]/\∀y∈t'.2,(∃k,k<n/\r.1+prK L k<=b/\t'.1=(r.1+prK L k,r.2+1)/\y=nP (row++[k],iN (jA p (L.getD k AQ).1) nb))\/∃t∈T,t.1=t'.1/\y∈t.2
 |0,t',hn,h=>⟨hn t' h,λy hy=>.inr ⟨t',h,rfl,hy⟩⟩
 |n+1,t',hn,h=>by
  have h:t'∈(if r.1+(L.getD n AQ).2<=b then jM (lgQ p L b r row nb n T) (r.1+(L.getD n AQ).2,r.2+1) (nP (row++[n],iN (jA p (L.getD n AQ).1) nb)) else lgQ p L b r row nb n T):=h;have old:∀t∈lgQ p L b r row nb n T,t.2≠[]:=λt ht=>(aAG n hn ht).1
  by_cases q:r.1+(L.getD n AQ).2<=b
  ·rw[if_pos q] at h;obtain⟨h1,h2⟩:=aBa old h;refine⟨h1,λy hy=> ?_⟩
   rcases h2 y hy with⟨e1,e2⟩|⟨t,ht,e,hy2⟩
   ·exact .inl ⟨n,by omega,q,e2,e1⟩
   ·rcases(aAG n hn ht).2 y hy2 with⟨k,k1,k2,k3,k4⟩|⟨s,s1,s2,s3⟩
    ·exact .inl ⟨k,by omega,k2,e▸k3,k4⟩
    ·exact .inr ⟨s,s1,s2.trans e,s3⟩
  ·rw[if_neg q] at h;obtain⟨h1,h2⟩:=aAG n hn h;exact⟨h1,λy hy=>(h2 y hy).imp (λ⟨k,k1,k2⟩=>⟨k,by omega,k2⟩) id⟩
theorem aHU:∀ {T:WtT},(∀t∈T,t.2≠[])->tot T<=2*(wrR T).length
 |[],_=>aJ _
 |t::T,h=>by
  have ih:=aHU (T:=T) λz hz=>h z<|aE _ hz
  have h1:0<t.2.length:=iV.mpr<|h t aG;have e1:tot (t::T)=(t.2.length+1)+tot T:=by simp[tot]
  have e2:(wrR (t::T)).length=t.2.length+(wrR T).length:=by show(t.2.map rwP++wrR T).length=_;rw[aN,aC]
  omega
def Cov(p:Int×Int)(L:List SK)(S:FdS)(rest:List Pr2)(row:List Nat):Prop:=row∈wrR S.T\/row∈rest.map rwP\/∃e∈S.fd,e.2.2=nrQ p L row/\kle L e.2.1 row
structure Wk(p:Int×Int)(L:List SK)(b:Int)(dn:List (List Nat))(r:Int×Int)(rest:List Pr2)(S:FdS):Prop where
 ok:aOp S
 ne:∀t∈S.T,t.2≠[]
 wt:∀t∈S.T,∀y∈t.2,∃row,y=itP p L row/\gC L row/\t.1=rkR L row/\t.1.1<=b
 rs:∀y∈rest,∃row,y=itP p L row/\gC L row/\r=rkR L row/\r.1<=b
 up:rest.Pairwise λx y=>plt x y=true
 gt:rest≠[]->∀t∈S.T,rlt r t.1
 nd:(dn++rest.map rwP++wrR S.T).Nodup
 fd:∀e∈S.fd,e.2.1∈dn/\gC L e.2.1/\e.1=S45.prQ (prK L) e.2.1/\e.1<=b/\e.2.2=nrQ p L e.2.1
 par:∀row,row∈dn++rest.map rwP++wrR S.T->row=[]\/∃q k,row=q++[k]/\q∈S.fd.map λe=>e.2.1
 du:∀row∈dn,gC L row/\S45.prQ (prK L) row<=b
 srt:(S.fd.map λe=>e.2.1).Pairwise (klt L)
 lt1:∀e∈S.fd,∀y∈rest,klt L e.2.1<|rwP y
 lt2:∀e∈S.fd,∀row∈wrR S.T,klt L e.2.1 row
 cl:∀e∈S.fd,∀k,k<L.length->e.1+prK L k<=b->Cov p L S rest (e.2.1++[k])
 st:0<=b->Cov p L S rest []
variable {dn:List (List Nat)}{rest:List Pr2}{S:FdS}{U:List (List Nat)}
noncomputable def aIL(n:Nat)(fd:List (List Nat)):List (List Nat):=[]::fd.flatMap λq=>(bR n).map λk=>q++[k]
theorem aHe(n:Nat)(fd:List (List Nat)):(aIL n fd).length=1+fd.length*n:=by
 unfold aIL;rw[bD,List.length_flatMap];have:(fd.map λq=>((bR n).map λk=>q++[k]).length)=fd.map λ_=>n:=cF λq _=>by rw[aC,fH]
 rw[this,List.map_const',List.sum_replicate_nat];omega
theorem Wk.okR(W:Wk p L b dn r rest S):∀row∈dn++rest.map rwP++wrR S.T,gC L row/\S45.prQ (prK L) row<=b:=λrow h=>by
 rcases aU.mp h with h|h
 ·rcases aU.mp h with h|h
  ·exact W.du row h
  ·obtain⟨y,hy,e⟩:=aQ.mp h;obtain⟨q,rfl,q2,q3,q4⟩:=W.rs y hy;rw[pF] at e;subst e;exact⟨q2,by rw[q3] at q4;exact q4⟩
 ·obtain⟨t,ht,y,hy,e⟩:=wrR_mem.mp h;obtain⟨q,rfl,q2,q3,q4⟩:=W.wt t ht y hy;rw[pF] at e;subst e;exact⟨q2,by rw[q3] at q4;exact q4⟩
theorem Wk.few2(W:Wk p L b dn r rest S):dn.length+rest.length+(wrR S.T).length<=1+S.fd.length*L.length:=by
 have:=W.nd.length_le_of_subset (l₂:=aIL L.length<|S.fd.map λe=>e.2.1) λrow h=>by
  rcases W.par row h with rfl|⟨q,k,rfl,hq⟩
  ·exact aG ..
  ·refine aE _<|dU.mpr ⟨q,hq,aQ.mpr ⟨k,cU.mpr ?_,rfl⟩⟩;exact(W.okR _ h).1 k<|by simp
 rw[aHe,aN,aN,aC,aC] at this;exact this
theorem Wk.tot2(W:Wk p L b dn r rest S):DL.tot S.T<=2*(1+S.fd.length*L.length):=by have:=aHU W.ne;have:=W.few2;omega
theorem Wk.step(hpr:∀k,k<L.length->1<=prK L k){y:Pr2}(W:Wk p L b dn r (y::rest) S):Wk p L b (dn++[rwP y]) r rest (fdI p L b r S<|unP y):=by
 obtain⟨row,ey,ro,er,rb⟩:=W.rs y aG;subst ey;have up:=lQ.mp W.up;have rp:S45.prQ (prK L) row<=b:=by rw[er] at rb;exact rb
 rw[aLZ];have ew:(itP p L row::rest).map rwP=row::rest.map rwP:=by rw[aW,pF]
 have nd:=W.nd;have par:=W.par;rw[ew] at nd par;have e1:dn++row::rest.map rwP=(dn++[row])++rest.map rwP:=by simp
 rw[e1] at nd par;rw[pF]
 have cv:∀c,Cov p L S (itP p L row::rest) c->c=row\/Cov p L S rest c:=λc h=>by
  rcases h with h|h|h
  ·exact .inr<|.inl h
  ·rw[ew] at h
   rcases bA.mp h with h|h
   ·exact .inl h
   ·exact .inr (.inr<|.inl h)
  ·exact .inr (.inr<|.inr h)
 have du:∀c∈dn++[row],gC L c/\S45.prQ (prK L) c<=b:=λc h=>by
  rcases aU.mp h with h|h
  ·exact W.du c h
  ·rw[aH.mp h];exact⟨ro,rp⟩
 have rs:∀y∈rest,∃row,y=itP p L row/\gC L row/\r=rkR L row/\r.1<=b:=λz hz=>W.rs z<|aE _ hz
 have gt:=W.gt (by simp);unfold fdI
 by_cases hk:nrQ p L row∈S.kn
 ·rw[if_pos hk];rw[W.ok.kn] at hk;obtain⟨e,he,en⟩:=aQ.mp hk
  have ke:klt L e.2.1 row:=by have:=W.lt1 e he _ aG;rw[pF] at this;exact this
  have cv2:∀c,Cov p L S (itP p L row::rest) c->Cov p L S rest c:=λc h=>by
   rcases cv c h with rfl|h
   ·exact .inr<|.inr ⟨e,he,en,.inr ke⟩
   ·exact h
  exact⟨W.ok,W.ne,W.wt,rs,up.2,λ_=>gt,nd,λe he=>⟨bL _ (W.fd e he).1,(W.fd e he).2⟩,par,du,W.srt,λe he z hz=>W.lt1 e he z<|aE _ hz,W.lt2,λe he k hk hle=>cv2 _<|W.cl e he k hk hle,λh=>cv2 _<|W.st h⟩
 ·have ok:=aNr (p:=p) (L:=L) (b:=b) (r:=r) W.ok (row,nrQ p L row);unfold fdI at ok;rw[if_neg hk] at ok ⊢;have pm:=aEn (p:=p) (L:=L) (b:=b) (r:=r) (row:=row) (nb:=nrQ p L row) (T:=S.T) L.length;have lm:=λt' h=>aAG (p:=p) (L:=L) (b:=b) (r:=r) (row:=row) (nb:=nrQ p L row) (T:=S.T) L.length (t':=t') W.ne h
  have rno:row∉S.fd.map λe=>e.2.1:=λh=>by obtain⟨e,he,ee⟩:=aQ.mp h;have:=(W.fd e he).1;rw[ee] at this;have n2:=(bE.mp (bE.mp nd).1).1;exact(bE.mp n2).2.2 row this row (by simp) rfl
  have mem':∀c,c∈wrR (lgQ p L b r row (nrQ p L row) L.length S.T)↔c∈chs L b r row L.length\/c∈wrR S.T:=λc=>by rw[pm.mem_iff,aU]
  have ch_lt:∀c∈chs L b r row L.length,klt L row c:=λc h=>by obtain⟨k,k1,k2,rfl⟩:=chs_mem.mp h;refine .inl ?_;rw[oX];have:=hpr k k1;unfold rlt;simp only;omega
  have T_lt:∀c∈wrR S.T,klt L row c:=λc h=>by obtain⟨t,ht,y,hy,e⟩:=wrR_mem.mp h;obtain⟨q,rfl,q2,q3,q4⟩:=W.wt t ht y hy;rw[pF] at e;subst e;refine .inl ?_;rw[<-er,<-q3];exact gt t ht
  have rest_lt:∀z∈rest,klt L row (rwP z):=λz hz=>by
   obtain⟨q,rfl,q2,q3,q4⟩:=rs z hz;rw[pF];refine .inr ⟨er.symm.trans q3, ?_⟩;have:=up.1 _ hz;unfold plt at this
   by_cases e:(itP p L row).1=(itP p L q).1
   ·exfalso;have e2:row=q:=aJN e;subst e2;rw[if_pos rfl,oN] at this;cases this
   ·rw[if_neg e] at this;exact this
  have cvn:∀c,Cov p L S (itP p L row::rest) c->Cov p L ⟨lgQ p L b r row (nrQ p L row) L.length S.T,S.kn++[nrQ p L row],S.fd++[(r.1,row,nrQ p L row)]⟩ rest c:=λc h=>by
   rcases cv c h with rfl|h|h|⟨e,he,q⟩
   ·exact .inr<|.inr ⟨(r.1,c,nrQ p L c),aI _<|bX _,rfl,.inl rfl⟩
   ·exact .inl ((mem' c).mpr<|.inr h)
   ·exact .inr<|.inl h
   ·exact .inr<|.inr ⟨e,bL _ he,q⟩
  have efd:(S.fd++[(r.1,row,nrQ p L row)]).map (λe=>e.2.1)=S.fd.map (λe=>e.2.1)++[row]:=by rw[bK];rfl
  refine⟨ok,λt h=>(lm t h).1,λt ht y hy=> ?_,rs,up.2,λ_ t ht=> ?_, ?_,λe he=> ?_,λc hc=> ?_,du, ?_,λe he z hz=> ?_,λe he c hc=> ?_,λe he k hk hle=> ?_,λh=>cvn _<|W.st h⟩
  ·rcases(lm t ht).2 y hy with⟨k,k1,k2,k3,k4⟩|⟨s,s1,s2,s3⟩
   ·refine⟨row++[k],by rw[k4];unfold itP;rw[zV],λi hi=> ?_,by rw[k3,oX,er],by rw[k3];exact k2⟩
    rcases aU.mp hi with hi|hi
    ·exact ro i hi
    ·rw[aH.mp hi];exact k1
   ·rw[<-s2];exact W.wt s s1 y s3
  ·obtain⟨h1,h2⟩:=lm t ht;obtain⟨y,hy⟩:=List.exists_mem_of_ne_nil _ h1
   rcases h2 y hy with⟨k,k1,k2,k3,k4⟩|⟨s,s1,s2,s3⟩
   ·rw[k3];have:=hpr k k1;unfold rlt;simp only;omega
   ·rw[<-s2];exact gt s s1
  ·have pm2:((dn++[row]++rest.map rwP)++wrR (lgQ p L b r row (nrQ p L row) L.length S.T)).Perm (chs L b r row L.length++((dn++[row]++rest.map rwP)++wrR S.T)):=(pm.append_left _).trans (by
    rw[<-dI,<-dI (chs L b r row L.length)]
    exact gS.append_right _)
   refine pm2.nodup_iff.mpr<|bE.mpr ⟨aNp _,nd,λc hc d hd e=> ?_⟩;subst e;obtain⟨k,k1,k2,rfl⟩:=chs_mem.mp hc
   rcases par _ hd with h|⟨q,j,h1,h2⟩
   ·simp at h
   ·have:row=q:=(List.append_inj' h1 rfl).1;subst this;exact rno h2
  ·rcases aU.mp he with he|he
   ·exact⟨bL _ (W.fd e he).1,(W.fd e he).2⟩
   ·rw[aH.mp he];exact⟨aI _<|bX _,ro,by rw[er];rfl,rb,rfl⟩
  ·rw[efd]
   have h:c∈dn++[row]++rest.map rwP++wrR S.T\/c∈chs L b r row L.length:=by
    rcases aU.mp hc with h|h
    ·exact .inl<|bL _ h
    ·rcases(mem' c).mp h with h|h
     ·exact .inr h
     ·exact .inl<|aI _ h
   rcases h with h|h
   ·exact(par c h).imp id λ⟨q,k,h1,h2⟩=>⟨q,k,h1,bL _ h2⟩
   ·obtain⟨k,_,_,rfl⟩:=chs_mem.mp h;exact .inr ⟨row,k,rfl,aI _<|bX _⟩
  ·rw[efd];refine pH.mpr ⟨W.srt,jK _ _,λa ha c hc=> ?_⟩;rw[aH.mp hc];obtain⟨e,he,rfl⟩:=aQ.mp ha;have:=W.lt1 e he _ aG;rw[pF] at this;exact this
  ·rcases aU.mp he with he|he
   ·exact W.lt1 e he z<|aE _ hz
   ·rw[aH.mp he];exact rest_lt z hz
  ·rcases aU.mp he with he|he
   ·rcases(mem' c).mp hc with h|h
    ·have:=W.lt1 e he _ aG;rw[pF] at this;exact aIi this<|ch_lt c h
    ·exact W.lt2 e he c h
   ·rw[aH.mp he]
    rcases(mem' c).mp hc with h|h
    ·exact ch_lt c h
    ·exact T_lt c h
  ·rcases aU.mp he with he|he
   ·exact cvn _<|W.cl e he k hk hle
   ·rw[aH.mp he] at hle ⊢;exact .inl<|(mem' _).mpr (.inl<|chs_mem.mpr ⟨k,hk,hle,rfl⟩)
theorem Wk.pop{t:(Int×Int)×List Pr2}(W:Wk p L b dn r [] S)(hn:S.T[n]? =some t)(hm:∀s∈S.T,¬ rlt s.1 t.1):t.2.Nodup/\Wk p L b dn t.1 (gA t.2) {S with T:=S.T.eraseIdx n}:=by
 have tm:=aY hn;obtain⟨nl,en⟩:=aD.mp hn
 have pT:S.T.Perm (t::S.T.eraseIdx n):=by
  have e1:S.T=S.T.take n++t::S.T.drop (n+1):=by rw[<-en,<-dY nl,fP]
  rw[dD];exact(e1▸List.Perm.refl S.T:S.T.Perm (S.T.take n++t::S.T.drop (n+1))).trans nH
 have pw:(wrR S.T).Perm (t.2.map rwP++wrR (S.T.eraseIdx n)):=pT.flatMap_right _;have ps:((gA t.2).map rwP).Perm (t.2.map rwP):=(gK t.2).map _;have nd:=W.nd;rw[eF,bG] at nd
 have pall:(dn++(gA t.2).map rwP++wrR (S.T.eraseIdx n)).Perm (dn++wrR S.T):=by rw[dI];exact((ps.append_right _).trans pw.symm).append_left _
 have ndt:t.2.Nodup:=by have h1:=(bE.mp<|pw.nodup_iff.mp (bE.mp nd).2.1).1;exact List.Pairwise.of_map _ (λa c h e=>h<|by rw[e]) h1
 have er:∀s∈S.T.eraseIdx n,s∈S.T:=λs hs=>iZ hs
 have sub:∀c∈wrR (S.T.eraseIdx n),c∈wrR S.T:=λc hc=>pw.symm.mem_iff.mp<|aI _ hc
 have sub2:∀y∈gA t.2,rwP y∈wrR S.T:=λy hy=>pw.symm.mem_iff.mp (bL _<|aQ.mpr ⟨y,(gK t.2).mem_iff.mp hy,rfl⟩)
 have cv:∀c,Cov p L S [] c->Cov p L {S with T:=S.T.eraseIdx n} (gA t.2) c:=λc h=>by
  rcases h with h|h|h
  ·rcases aU.mp (pw.mem_iff.mp h) with h|h
   ·exact .inr (.inl<|ps.symm.mem_iff.mp h)
   ·exact .inl h
  ·cases h
  ·exact .inr<|.inr h
 have ek:wtK (S.T.eraseIdx n)=(wtK S.T).eraseIdx n:=by unfold wtK;rw[dD,dD,bK,kE,kG]
 refine⟨ndt,⟨by rw[ek];exact W.ok.nk.sublist<|pA _ _,W.ok.kn,W.ok.nd⟩,λs hs=>W.ne s<|er s hs,λs hs=>W.wt s<|er s hs,λy hy=>W.wt t tm y<|(gK t.2).mem_iff.mp hy,aAn ndt,λ_ s hs=> ?_,pall.nodup_iff.mpr nd,W.fd,λc hc=> ?_,W.du,W.srt,λe he y hy=>W.lt2 e he _<|sub2 y hy,λe he c hc=>W.lt2 e he c<|sub c hc,λe he k hk hle=>cv _<|W.cl e he k hk hle,λh=>cv _<|W.st h⟩
 ·refine aJu (λe=> ?_) (hm s<|er s hs);have nk:=W.ok.nk;have pk:(wtK S.T).Perm (rkK t.1::wtK (S.T.eraseIdx n)):=pT.map _;have:=(bS.mp<|pk.nodup_iff.mp nk).1;refine this ?_;rw[e];exact aQ.mpr ⟨s,hs,rfl⟩
 ·refine W.par c ?_;rw[eF,bG];exact pall.mem_iff.mp hc
theorem aHb(hne:T≠[]):∃t:(Int×Int)×List Pr2,T[eI T]? =some t/\∀s∈T,¬ rlt s.1 t.1:=by
 have l0:0<T.length:=iV.mpr hne
 have em:(wtK T).map mV=T.map λt=>rkD t.1:=by unfold wtK;rw[aV];rfl
 have ln:((wtK T).map mV).length=T.length:=by rw[em,aC]
 have gd:∀i,i<T.length->((wtK T).map mV).getD i .non=rkD ((T.map (·.1)).getD i (0,0)):=λi hi=>by rw[em];simp[cK,hi]
 have eb:eI T=Ac (λi k=>decide (rlt ((T.map (·.1)).getD i (0,0)) ((T.map (·.1)).getD k (0,0)))) (T.length-1):=by unfold eI jO;rw[ln];exact pK _ λi j hi hj=>by rw[gd i<|by omega,gd j<|by omega,aIu]
 have bl:=tV (λi k=>decide (rlt ((T.map (·.1)).getD i (0,0)) ((T.map (·.1)).getD k (0,0))))<|T.length-1;have bm:=uO (T.map (·.1)) (T.length-1) (by rw[aC];omega);rw[<-eb] at bl bm;generalize eI T=n at bl bm;have hn:n<T.length:=by omega
 refine⟨T[n],fA hn,λs hs=> ?_⟩;obtain⟨j,hj⟩:=dO hs;have lj:j<T.length:=(aD.mp hj).1;have:=bm j (by omega);have e1:(T.map (·.1)).getD j (0,0)=s.1:=by simp[cK,hj]
 have e2:(T.map (·.1)).getD n (0,0)=T[n].1:=by simp[cK,hn]
 rw[e1,e2] at this;exact this
noncomputable def fd0(p:Int×Int)(b:Int):FdS:=⟨if 0<=b then[((0,0),[nP ([],st0 p)])] else[],[],[]⟩
noncomputable def bkF(p:Int×Int)(L:List SK)(b:Int):List (Int×List Nat×List Nat):=(iP p L b 4002<|fd0 p b).fd
theorem wk0(p:Int×Int)(L:List SK)(b:Int):Wk p L b [] (0,0) [] (fd0 p b):=by
 have e:nP ([],st0 p)=itP p L []:=rfl
 by_cases h:0<=b
 ·have e0:fd0 p b=⟨[((0,0),[itP p L []])],[],[]⟩:=by unfold fd0;rw[if_pos h,e]
  have ew:wrR [((0,0),[itP p L []])]=[[]]:=by show[rwP<|itP p L []]++[]=_;rw[pF];rfl
  rw[e0];refine⟨⟨by simp[wtK],rfl,cI⟩,λt ht=> ?_,λt ht y hy=> ?_,λy hy=>(nomatch hy),List.Pairwise.nil,λh=>absurd rfl h, ?_,λe he=>(nomatch he),λrow hr=> ?_,λrow hr=>(nomatch hr),List.Pairwise.nil,λe he=>(nomatch he),λe he=>(nomatch he),λe he=>(nomatch he),λ_=>.inl ?_⟩
  ·rw[aH.mp ht];simp
  ·rw[aH.mp ht] at hy ⊢;exact⟨[],aH.mp hy,λi hi=>(nomatch hi),rfl,h⟩
  ·show(wrR [((0,0),[itP p L []])]).Nodup;rw[ew];simp
  ·have hr:row∈wrR [((0,0),[itP p L []])]:=hr;rw[ew] at hr;exact .inl<|aH.mp hr
  ·show[]∈wrR [((0,0),[itP p L []])];rw[ew];exact bX _
 ·have e0:fd0 p b=⟨[],[],[]⟩:=by unfold fd0;rw[if_neg h]
  rw[e0];exact⟨⟨cI,rfl,cI⟩,λt ht=>(nomatch ht),λt ht=>(nomatch ht),λy hy=>(nomatch hy),List.Pairwise.nil,λh=>absurd rfl h,cI,λe he=>(nomatch he),λrow hr=>(nomatch hr),λrow hr=>(nomatch hr),List.Pairwise.nil,λe he=>(nomatch he),λe he=>(nomatch he),λe he=>(nomatch he),λz=>absurd z h⟩
theorem Wk.take(hpr:∀k,k<L.length->1<=prK L k)(W:Wk p L b dn r rest S):∀j,j<=rest.length->Wk p L b (dn++(rest.take j).map rwP) r (rest.drop j) (fdP p L b r S<|rest.take j)
 |0,_=>by rw[aNC,eF,bG];exact W
 |j+1,hj=>by
  have ih:=Wk.take hpr W j (by omega);have lj:j<rest.length:=by omega
  rw[dY lj] at ih;have:=ih.step hpr;rw[<-uS] at this
  have et:rest.take (j+1)=rest.take j++[rest[j]]:=by rw[eP,fA lj];rfl
  rw[et,bK,<-dI];exact this
theorem Wk.turn(hpr:∀k,k<L.length->1<=prK L k)(W:Wk p L b dn r [] S)(hne:S.T≠[]):∃t:(Int×Int)×List Pr2,S.T[eI S.T]? =some t/\(∀s∈S.T,¬ rlt s.1 t.1)/\t.2.Nodup/\t.2≠[]/\Wk p L b dn t.1 (gA t.2) {S with T:=S.T.eraseIdx (eI S.T)}/\fdT p L b S=fdP p L b t.1 {S with T:=S.T.eraseIdx (eI S.T)} (gA t.2)/\Wk p L b (dn++(gA t.2).map rwP) t.1 [] (fdT p L b S):=by
 obtain⟨t,ht,hm⟩:=aHb hne;obtain⟨n1,W1⟩:=W.pop ht hm
 have e:fdT p L b S=fdP p L b t.1 {S with T:=S.T.eraseIdx (eI S.T)} (gA t.2):=by unfold fdT;rw[ht]
 refine⟨t,ht,hm,n1,W.ne t<|aY ht,W1,e, ?_⟩;have:=W1.take hpr (gA t.2).length<|aJ _;rw[gD,aKT] at this;rw[e];exact this
theorem uI(hpr:∀k,k<L.length->1<=prK L k){M:Nat}:∀ (m:Nat) {dn:List (List Nat)}{r:Int×Int}{S:FdS},Wk p L b dn r [] S->1+M*L.length<dn.length+m->∃dn' r',Wk p L b dn' r' [] (iP p L b m S)/\((iP p L b m S).T=[]\/M<(iP p L b m S).fd.length)
 |0,dn,r,S,W,h=>by
  refine⟨dn,r,W,.inr ?_⟩;show M<S.fd.length;refine Nat.lt_of_not_le λq=> ?_
  have:=W.few2;have:=aFD L.length q;omega
 |m+1,dn,r,S,W,h=>by
  show ∃dn' r',Wk p L b dn' r' [] (if S.T=[] then S else iP p L b m (fdT p L b S))/\((if S.T=[] then S else iP p L b m (fdT p L b S)).T=[]\/M<(if S.T=[] then S else iP p L b m (fdT p L b S)).fd.length)
  by_cases q:S.T=[]
  ·rw[if_pos q];exact⟨dn,r,W,.inl q⟩
  ·rw[if_neg q];obtain⟨t,_,_,_,ne,_,_,W2⟩:=W.turn hpr q;refine uI hpr m W2 ?_
   have:0<(gA t.2).length:=by rw[(gK t.2).length_eq];exact iV.mpr ne
   rw[aN,aC];omega
theorem aAl(b:Int)(r:Int×Int):∀ (xs:List Pr2) (S:FdS),S.fd<+:(fdP p L b r S xs).fd
 |[],S=>jY _
 |y::xs,S=>by
  show S.fd<+:(fdP p L b r (fdI p L b r S<|unP y) xs).fd;refine List.IsPrefix.trans ?_<|aAl b r xs _;unfold fdI
  split
  ·exact jY _
  ·exact List.prefix_append ..
theorem aKA(S:FdS):S.fd<+:(fdT p L b S).fd:=by
 unfold fdT
 split
 ·exact jY _
 ·exact aAl b _ _ {S with T:=S.T.eraseIdx (eI S.T)}
theorem aDV:∀ (m:Nat) (S:FdS),S.fd<+:(iP p L b m S).fd
 |0,S=>jY _
 |m+1,S=>by
  show S.fd<+:(if S.T=[] then S else iP p L b m (fdT p L b S)).fd
  split
  ·exact jY _
  ·exact(aKA S).trans<|aDV m _
structure BkFOk(p:Int×Int)(L:List SK)(b:Int)(B:List (Int×List Nat×List Nat)):Prop where
 len:B.length<=500
 ent:∀e∈B,gC L e.2.1/\e.1=S45.prQ (prK L) e.2.1/\e.1<=b/\e.2.2=nrQ p L e.2.1/\e.2.1.length<=300
 nd:(B.map λe=>e.2.2).Nodup
 srt:(B.map λe=>e.2.1).Pairwise (klt L)
 cl:∀e∈B,∀k,k<L.length->e.1+prK L k<=b->∃e'∈B,e'.2.2=nrQ p L (e.2.1++[k])/\kle L e'.2.1 (e.2.1++[k])
 st:0<=b->∃e∈B,e.2.2=nrQ p L []/\kle L e.2.1 []
structure Fit(p:Int×Int)(L:List SK)(b:Int):Prop where
 l8:L.length<=8
 b3:b<=300
 le:(bkF p L b).length<=500
theorem aCR{pr:Nat->Int}:∀ (row:List Nat),(∀k∈row,1<=pr k)->(row.length:Int)<=S45.prQ pr row
 |[],_=>xB _
 |k::row,h=>by
  have ih:=aCR row λj hj=>h j<|aE _ hj
  have h1:=h k<|aG ..;show((row.length+1:Nat):Int)<=(pr k::row.map pr).sum;rw[aBI];unfold S45.prQ at ih;omega
theorem aJH(hpr:∀k,k<L.length->1<=prK L k)(F:Fit p L b):∃dn r,Wk p L b dn r [] (iP p L b 4002<|fd0 p b)/\(iP p L b 4002<|fd0 p b).T=[]:=by obtain⟨dn,r,W,e⟩:=uI (M:=500) hpr 4002 (wk0 p L b) (by have:=F.l8;simp;omega);exact⟨dn,r,W,e.resolve_right<|by have:=F.le;unfold bkF at this;omega⟩
theorem aHJ(hpr:∀k,k<L.length->1<=prK L k)(F:Fit p L b):BkFOk p L b (bkF p L b):=by
 obtain⟨dn,r,W,e⟩:=aJH hpr F
 have cv:∀c,Cov p L (iP p L b 4002<|fd0 p b) [] c->∃e∈(iP p L b 4002<|fd0 p b).fd,e.2.2=nrQ p L c/\kle L e.2.1 c:=λc h=>by
  rcases h with h|h|h
  ·rw[e] at h;cases h
  ·cases h
  ·exact h
 refine⟨F.le,λe he=> ?_,by have:=W.ok.nd;rw[W.ok.kn] at this;exact this,W.srt,λe he k hk hle=>cv _<|W.cl e he k hk hle,λh=>cv _<|W.st h⟩;obtain⟨h1,h2,h3,h4,h5⟩:=W.fd e he;refine⟨h2,h3,h4,h5, ?_⟩;have:=aCR (pr:=prK L) e.2.1 λk hk=>hpr k<|h2 k hk
 have:=F.b3;omega
structure aPm(L:List SK)(b:Int)(U:List (List Nat)):Prop where
 len:U.length<=500
 all:∀row,gC L row->S45.prQ (prK L) row<=b->row∈U
theorem aJQ(hpr:∀k,k<L.length->1<=prK L k)(h:aPm L b U)(l8:L.length<=8)(b3:b<=300):Fit p L b:=by
 refine⟨l8,b3, ?_⟩;obtain⟨dn,r,W,_⟩:=uI (M:=500) hpr 4002 (wk0 p L b) (by simp;omega);have nd:((bkF p L b).map λe=>e.2.1).Nodup:=List.Pairwise.imp (S:=(·≠·)) (λ{a c} h e=>aKH L a<|by rw[<-e] at h;exact h) W.srt
 have:=nd.length_le_of_subset (l₂:=U) λrow hr=>by obtain⟨e,he,rfl⟩:=aQ.mp hr;obtain⟨h1,h2,h3,h4,h5⟩:=W.fd e he;exact h.all _ h2 (by rw[<-h3];exact h4)
 rw[aC] at this;have:=h.len;omega
theorem BkFOk.all{B:List (Int×List Nat×List Nat)}(hpr:∀k,k<L.length->1<=prK L k)(O:BkFOk p L b B):∀row,gC L row->S45.prQ (prK L) row<=b->∃e∈B,e.2.2=nrQ p L row/\kle L e.2.1 row:=by
 have g:∀ (n:Nat) (row:List Nat),row.length=n->gC L row->S45.prQ (prK L) row<=b->∃e∈B,e.2.2=nrQ p L row/\kle L e.2.1 row:=λn=>by
  induction n with
  |zero=>intro row hl _ hb;have:row=[]:=gI hl;subst this;exact O.st hb
  |succ n ih=>
   intro row hl ho hb;have hne:row≠[]:=λz=>by rw[z] at hl;cases hl
   have ed:=kS hne;generalize row.dropLast=q at ed;generalize row.getLast hne=k at ed;subst ed;have kn:k<L.length:=ho k (by simp);have h1:=hpr k kn;rw[S45.pr_snoc] at hb;obtain⟨e,he,e1,e2⟩:=ih q (by simpa using hl) (λi hi=>ho i<|bL _ hi) (by omega);obtain⟨_,h3,_,h5,_⟩:=O.ent e he
   have le:S45.prQ (prK L) e.2.1<=S45.prQ (prK L) q:=by
    rcases e2 with z|(z|⟨z,_⟩)
    ·rw[z];exact xB _
    ·have:(rkR L e.2.1).1<=(rkR L q).1:=by unfold rlt at z;omega
     exact this
    ·exact Int.le_of_eq<|congrArg Prod.fst z
   obtain⟨e',he',e3,e4⟩:=O.cl e he k kn (by omega);refine⟨e',he', ?_,aNc e4<|aHp k e2⟩;rw[e3,zV,zV,<-h5,e1]
 exact λrow=>g row.length row rfl
noncomputable def fdD(e:Int×List Nat×List Nat):D:=.tup [.int e.1,.tup<|bT e.2.1,.tup<|bT e.2.2]
def aIg:List D->R->Prop:=λds r=>∃p L b,p∈bW/\StkOk p L/\Fit p L b/\ds=[.lst (L.map<|mvD p),.int b,.tup (bT<|st0 p)]/\r=.own ((bkF p L b).map fdD)
noncomputable def yO(ds:List D):List Nat:=ds.map λd=>match d with | .int i=>i.toNat|_=>0
theorem aDx(l:List Nat):yO (bT l)=l:=by unfold yO bT;rw[aV];exact(cF λi _=>dJ i).trans<|kI l
noncomputable def unE:D->Int×List Nat×List Nat
 |.tup [.int a,.tup r,.tup n]=>(a,yO r,yO n)
 |_=>(0,[],[])
theorem aIU(e:Int×List Nat×List Nat):unE (fdD e)=e:=by show(e.1,yO<|bT e.2.1,yO<|bT e.2.2)=e;rw[aDx,aDx]
noncomputable def bkQ(p:Int×Int)(L:List SK)(b:Int):List Bk:=(bkF p L b).map λe=>(e.1,e.2.1,jC p e.2.2)
def aFM:List D->R->Prop:=λds r=>∃p L b,p∈bW/\StkOk p L/\(L.map λs=>sqD s.1).Nodup/\Fit p L b/\ds=[cJ p,.lst<|L.map skD,.int b]/\r=.own ((bkQ p L b).map enD)
section
open PySem.W PySem.Calls Att
end
section
open PySem.SeqAt
open PySem.AutoSeq1 (wpAny_loadPart')
open PySem.MeetsSeq PySem.MeetsSeq2 PySem.MeetsSeq3
end
structure aPl(p:Int×Int)(L:List SK)(b:Int)(B:List Bk):Prop where
 len:B.length<=500
 ent:∀e∈B,gC L e.2.1/\e.1=S45.prQ (prK L) e.2.1/\e.1<=b/\e.2.2=S45.tabQ (xL p L) (bV p) e.2.1/\e.2.1.length<=300
 nd:(B.map λe=>e.2.2).Nodup
 srt:(B.map λe=>e.2.1).Pairwise (klt L)
 cl:∀e∈B,∀k,k<L.length->e.1+prK L k<=b->∃e'∈B,e'.2.2=xL p L k e.2.2/\kle L e'.2.1 (e.2.1++[k])
 st:0<=b->∃e∈B,e.2.2=bV p/\kle L e.2.1 []
 all:∀row,gC L row->S45.prQ (prK L) row<=b->∃e∈B,e.2.2=S45.tabQ (xL p L) (bV p) row/\kle L e.2.1 row
theorem aMS(hp:p∈bW)(S:StkOk p L)(F:Fit p L b):aPl p L b (bkQ p L b):=by
 have O:=aHJ (p:=p) S.pr F;have nr:∀ {row:List Nat},gC L row->NOk p (nrQ p L row)/\jC p (nrQ p L row)=S45.tabQ (xL p L) (bV p) row:=λh=>aCF hp (λs hs=>(S.st s hs).1) h
 have mem:∀ {e:Int×List Nat×List Nat},e∈bkF p L b->(e.1,e.2.1,jC p e.2.2)∈bkQ p L b:=λh=>aQ.mpr ⟨_,h,rfl⟩
 refine⟨by unfold bkQ;rw[aC];exact O.len,λx hx=> ?_, ?_, ?_,λx hx k hk hle=> ?_,λh=> ?_,λrow ho hr=> ?_⟩
 ·obtain⟨e,he,rfl⟩:=aQ.mp hx;obtain⟨h1,h2,h3,h4,h5⟩:=O.ent e he;exact⟨h1,h2,h3,by show jC p e.2.2=_;rw[h4];exact(nr h1).2,h5⟩
 ·unfold bkQ;rw[aV];have:(bkF p L b).map ((λe:Bk=>e.2.2) ∘ λe=>(e.1,e.2.1,jC p e.2.2))=((bkF p L b).map λe=>e.2.2).map (jC p):=by rw[aV];rfl
  rw[this];have q:=O.nd;unfold List.Nodup at q ⊢;rw[mO];refine List.Pairwise.imp_of_mem (λ{a c} ha hc h z=>h ?_) q;obtain⟨e,he,rfl⟩:=aQ.mp ha;obtain⟨e',he',rfl⟩:=aQ.mp hc;have n1:=(nr (O.ent e he).1).1;have n2:=(nr (O.ent e' he').1).1;rw[<-(O.ent e he).2.2.2.1] at n1;rw[<-(O.ent e' he').2.2.2.1] at n2;exact aGe hp n1 n2 z
 ·unfold bkQ;rw[aV];exact O.srt
 ·obtain⟨e,he,rfl⟩:=aQ.mp hx;obtain⟨e',he',h1,h2⟩:=O.cl e he k hk hle;obtain⟨o1,_,_,o4,_⟩:=O.ent e he;refine⟨_,mem he', ?_,h2⟩
  have ho:gC L (e.2.1++[k]):=λi hi=>by
   rcases aU.mp hi with hi|hi
   ·exact o1 i hi
   ·rw[aH.mp hi];exact hk
  show jC p e'.2.2=xL p L k (jC p e.2.2);rw[h1,(nr ho).2,S45.tab_snoc,o4,(nr o1).2]
 ·obtain⟨e,he,h1,h2⟩:=O.st h;refine⟨_,mem he, ?_,h2⟩;show jC p e.2.2=bV p;rw[h1];exact aDN p
 ·obtain⟨e,he,h1,h2⟩:=O.all S.pr row ho hr;refine⟨_,mem he, ?_,h2⟩;show jC p e.2.2=_;rw[h1];exact(nr ho).2
theorem aJm(hp:p∈bW)(S:StkOk p L)(h:gC L row):(S45.tabQ (xL p L) (bV p) row).length=(bV p).length:=by obtain⟨q1,q2⟩:=aCF hp (λs hs=>(S.st s hs).1) h;rw[<-q2];unfold jC;rw[aC];exact q1.1
theorem aIX(q:SQ):pl (sqD q)=true/\dep (sqD q)=1:=by
 show pl (kB _ _ _ _)=true/\dep (kB _ _ _ _)=1;unfold kB
 split
 ·exact⟨rfl,rfl⟩
 ·split<;>exact⟨rfl,rfl⟩
theorem aLF(s:SK):pl (skD s)=true/\dep (skD s)<=2:=by
 refine⟨?_, ?_⟩
 ·show(pl (sqD s.1)&&(true&&true))=true;rw[(aIX s.1).1];rfl
 ·show max (dep<|sqD s.1) (max 0 0)+1<=2;rw[(aIX s.1).2];decide
open PySem.W (KasT kas_sort)
noncomputable def doQ(p:Int×Int)(w:List (Option (List<|List Int)))(T:List (List Int)):Bool:=(uZ w (bV p) T).isNone
noncomputable def ftQ(p:Int×Int)(w:List (Option (List<|List Int)))(B:List Bk):Option Bk:=B.find? λe=>doQ p w e.2.2
noncomputable def oeD:Option Bk->D
 |none=>.non
 |some e=>enD e
def aFN:List D->R->Prop:=λds r=>∃p L b B w,p∈bW/\StkOk p L/\aPl p L b B/\aAI p w/\ds=[cJ p,.lst<|B.map enD,.lst<|w.map wsD]/\r=.val (oeD<|ftQ p w B)
theorem aJi(hp:p∈bW)(S:StkOk p L)(h:gC L row):xY p (S45.tabQ (xL p L) (bV p) row):=⟨aJm hp S h,λws hw=>lJ hp<|aGK hp S h ws hw⟩
def FI(K:aA)(mg:Str->Option BD)(n:Str)(st:BJ):Prop:=∃f fd,mg n=some (.ref f)/\Fun K n n st f fd
theorem FI.mk{h:BH}{mg:Str->Option BD}{n:Str}{st:BJ}{od an:Option BF}{sl:Array (Option BD)}{oc kV dc pm cd ct:BD}{f:BF}(X:K.In h)(G:h.Ns AO mg)(a:eM K AO n=some (some<|.ref f))(l:K.lookup f=some ⟨oc,od,.func<|bY n n (dW st) (cM st) (aK st) .none kV dc pm an cd ct,sl⟩)(c:eL K cd n=true)(k:cG K (.ref f)=true):FI K mg n st:=⟨f,_,dN X G a,zO (st:=st) l c k⟩
def JSh(p:Int×Int)(L:List SK)(ks:List Key)(ds:List D):Prop:=ks.Nodup/\ks.length=ds.length/\∀ (n:Nat) (k:Key),ks[n]? =some k->∃b:Nat,b<=900/\k=Sum.inl (b:Int)/\ds[n]? =some (D.lst<|(bkQ p L (b:Int)).map enD)/\Fit p L (b:Int)
theorem JSh.nil:JSh p L [] []:=⟨cI,rfl,λn k h=>by simp at h⟩
theorem JSh.len{ks:List Key}(h:JSh p L ks ds):ds.length<=10000:=by
 have:=h.1.length_le_of_subset (l₂:=(bR 901).map λ(b:Nat)=>(.inl (b:Int):Key)) λk hk=>by obtain⟨n,hn⟩:=dO hk;obtain⟨b,hb,e,_⟩:=h.2.2 n k hn;exact aQ.mpr ⟨b,cU.mpr<|by omega,e.symm⟩
 rw[aC,fH] at this;have:=h.2.1;omega
theorem JSh.put{ks:List Key}(h:JSh p L ks ds){b:Nat}(hb:b<=900)(ft:Fit p L (b:Int))(hk:(.inl (b:Int):Key)∉ks):JSh p L (ks++[.inl (b:Int)]) (ds++[.lst<|(bkQ p L (b:Int)).map enD]):=by
 refine⟨bE.mpr ⟨h.1,bS.mpr ⟨by simp,cI⟩,λa ha c hc e=>hk ?_⟩,by rw[aN,aN,h.2.1];rfl,λn k hn=> ?_⟩
 ·rw[<-aH.mp hc,<-e];exact ha
 ·by_cases hl:n<ks.length
  ·rw[dX hl] at hn;obtain⟨b',q1,q2,q3,q4⟩:=h.2.2 n k hn;exact⟨b',q1,q2,by rw[dX<|by rw[<-h.2.1];exact hl];exact q3,q4⟩
  ·have e:n=ks.length:=by have:=(aD.mp hn).1;rw[aN] at this;simp at this;omega
   subst e;rw[xN] at hn;refine⟨b,hb,(bM.inj hn).symm, ?_,ft⟩;rw[h.2.1,xN]
theorem JSh.at_{ks:List Key}(h:JSh p L ks ds){b:Nat}(hk:(.inl (b:Int):Key)∈ks):∃n:Nat,ks[n]? =some (Sum.inl (b:Int))/\ds[n]? =some (D.lst<|(bkQ p L (b:Int)).map enD):=by
 obtain⟨n,hn⟩:=dO hk;obtain⟨b',_,e,q,_⟩:=h.2.2 n _ hn
 have:b=b':=by have:=Sum.inl.inj e;omega
 subst this;exact⟨n,hn,q⟩
noncomputable def aNX(p:Int×Int)(L:List SK):List (Str×D):=[("size",cJ p),("stock",.lst<|L.map skD)]
noncomputable abbrev shZ(K:aA)(C:BF)(p:Int×Int)(L:List SK):Lent K:=shL K C (aNX p L)<|JSh p L
structure aPw(p:Int×Int)(L:List SK)(b:Nat):Prop where
 hp:p∈bW
 st:StkOk p L
 nd:(L.map λs=>sqD s.1).Nodup
 fit:Fit p L (b:Int)
 le:b<=900
def aPj{α:Type}(p:Int×Int)(L:List SK):α->List D->D->Prop:=λ_ ds d=>∃b:Nat,aPw p L b/\ds=[.int (b:Int)]/\d=.lst ((bkQ p L (b:Int)).map enD)
noncomputable def pfD:Option Bk->D
 |none=>.non
 |some e=>.tup<|bT e.2.1
noncomputable def pcQ(p:Int×Int)(L:List SK)(row:List Nat)(pl mn:Nat)(bs:List Nat):Option Bk:=ftQ p (waQ p L row pl mn bs) (bkQ p L<|sM (sL L<|(row.drop pl).take mn)-1)
structure aLd(p:Int×Int)(L:List SK)(row:List Nat)(pl mn:Nat)(o:Option (List Nat)):Prop where
 rw:∀t∈row,t<L.length
 rl:row.length<=100
 m1:1<=mn
 le:pl+mn<=row.length
 lk:aLa p o
 bk:∃b:Nat,sM (sL L<|(row.drop pl).take mn)-1=(b:Int)/\aPw p L b
def CPf{α:Type}(p:Int×Int)(L:List SK):α->List D->D->Prop:=λ_ ds d=>∃row pl mn o,aLd p L row pl mn o/\ds=[.tup<|bT row,.int (pl:Int),.int (mn:Int),lkD o]/\d=pfD (pcQ p L row pl mn<|bxQ p.2.toNat o)
def aIY:List D->R->Prop:=λds r=>∃p L row pl mn o,aLd p L row pl mn o/\ds=[cJ p,.lst<|L.map skD,.tup<|bT row,.int (pl:Int),.int (mn:Int),lkD o]/\r=.val (pfD (pcQ p L row pl mn<|bxQ p.2.toNat o))
theorem aDI{C:BF}{fs:List (Str×D)}{J:List Key->List D->Prop}{a:BF×BF}(F H:Hp)(h:(shL K C fs J).G a (.ref<|(shL K C fs J).ad a) F H):aIK K C "book_up_to" ((shL K C fs J).ad a) F:=by obtain⟨_,⟨x,dx,od,mA,e,h1,h2,ne,ns,_,_,hb⟩,_⟩:=h;cases e;exact⟨dx,od,mA,h1,h2,ne,ns,hb⟩
theorem vU{C:BF}{fs:List (Str×D)}{J:List Key->List D->Prop}(a:BF×BF)(v:V)(F H:Hp)(b:BF)(o:HO)(h:(shL K C fs J).G a v F H)(hb:b∈(shL K C fs J).own a)(e:H b=some o):¬ mY o:=by obtain⟨_,_,ks,ds,_,xs,q,_⟩:=h;rw[aH.mp hb] at e;have e':=q.symm.trans e;cases e';exact id
variable (Z:Lent K)
noncomputable def aKZ(n:Nat)(C:Z.α->List D->Prop):Sp:=λvs H _ E=>vs.length=n/\∃ (v:V) (us:List V) (F:Hp) (a:Z.α) (ds:List D),vs=v::us/\Same F H/\(∀b,b∉Z.own a->H b=F b)/\Smp H/\dM K F H (Z.sl a) (some v)/\(Z.own a).Nodup/\RepL K F ds us/\C a ds/\∀x H',Same F H'->Smp H'->E (.ref x) (some x) H'
noncomputable def spXM(n:Nat)(C:Z.α->List D->Prop):Sp:=λvs H _ E=>vs.length=n/\Smp H/\∃ (v:V) (us:List V) (F:Hp) (a:Z.α) (ds:List D),vs=v::us/\Same F H/\dM K F H (Z.sl a) (some v)/\(Z.own a).Nodup/\RepL K F ds us/\C a ds/\∀x H',(∀b o,b∉Z.own a->H b=some o->H' b=some o)->Smp H'->E (.ref x) (some x) H'
theorem FnOk.framedX{Z:Lent K}{mg:Str->Option BD}{base:BH}{k:Nat}{f:BF}{fd:AN}{ps:List Str}{C:Z.α->List D->Prop}{cls:BD}(G:FnOk P w K mg base (CX1 P w cls) k f fd ps (aKZ Z n C)):FnOk P w K mg base (CX1 P w cls) k f fd ps (spXM Z n C):=by
 have res:∀ {F H:Hp}{a:Z.α}{v:V},Same F H->dM K F H (Z.sl a) (some v)->Same F (jZ (Z.own a) F H)/\Same (jZ (Z.own a) F H) H/\dM K F (jZ (Z.own a) F H) (Z.sl a) (some v):=λ{F H a v} sF so=>by
  obtain⟨v',ev,ow,gg⟩:=so;refine⟨λb o e=> ?_,λb o e=> ?_,v',ev,λb hb=>⟨(ow b hb).1, ?_⟩,λF' H' s k=>gg F' H' s λb hb ob e=>k b hb ob<|by rw[kO hb];exact e⟩
  ·by_cases h:b∈Z.own a
   ·rw[(ow b h).1] at e;cases e
   ·rw[gE h];exact e
  ·by_cases h:b∈Z.own a
   ·rw[kO h] at e;exact e
   ·rw[gE h] at e;exact sF b o e
  ·rw[kO hb];exact(ow b hb).2
 refine⟨λvs H Q E h=> ?_,λA outer s H args us vs Q E hr e0 hb rv h=> ?_⟩
 ·obtain⟨hl,sm,v,us,F,a,ds,e,sF,so,nd,rl,c,_⟩:=h;obtain⟨q1,q2,q3⟩:=res sF so;exact G.len vs (jZ (Z.own a) F H) (λ_ _=>True) (λ_ _ _=>True) ⟨hl,v,us,F,a,ds,e,q1,λb hb=>gE hb,sm.sub q2,q3,nd,rl,c,λ_ _ _ _=>trivial⟩
 ·obtain⟨hl,sm,v,us',F,a,ds,ev,sF,so,nd,rl,c,q⟩:=h;obtain⟨q1,sU,q3⟩:=res sF so;obtain⟨_,_,ow,_⟩:=id so;have nU:∀b,b∉Z.own a->F b=none->jZ (Z.own a) F H b=none:=λb hbl n=>by rw[gE hbl];exact n
  have e1:Env0 P w K mg base A outer s (jZ (Z.own a) F H):=⟨e0.frames,e0.mod,λb o e=>⟨(e0.bs b o e).1,sU.free (e0.bs b o e).2⟩,e0.bsz,e0.funs,λb hb=>sU.free<|e0.frf b hb,λb o e=>(e0.hok b o<|sU b o e).smp (sm b o<|sU b o e),e0.bare⟩;refine Aj (G.run A outer s (jZ (Z.own a) F H) args us vs (λ_ _=>False) (λ_ _ H'=>Same F H'/\Smp H') hr e1 hb rv ⟨hl,v,us',F,a,ds,ev,q1,λb hb=>gE hb,sm.sub sU,q3,nd,rl,c,λx H' z1 z2=>⟨z1,z2⟩⟩) λrr s' hrr=> ?_
  cases rr with
  |error e=>
   obtain⟨x,T,F3,rfl,os,bare,un,hk,ex,s3,sm3⟩:=hrr
   have keepF:∀b o,b∉Z.own a->H b=some o->F b=none->F3 b=none:=λb o hbl e n=>by obtain⟨ob,g⟩:=nX<|e0.hok b o e;exact un.free b ob g (nU b hbl n)<|by simp
   have keepO:∀b o,b∉Z.own a->H b=some o->F b=none->∀ob,s.heap.get? b=some ob->s'.heap.get? b=some ob:=λb o hbl e n ob g=>un.keep b ob g (nU b hbl n) (λhb=>by have:=e0.frf b hb;rw[e] at this;cases this)<|by simp
   have sH:∀b o,b∉Z.own a->H b=some o->fJ (Z.own a) F3 H b=some o:=λb o hbl e=>by
    cases g:F b with
    |none=>rw[fS hbl<|keepF b o hbl e g];exact e
    |some o'=>have:=sF b o' g;rw[e] at this;cases this;exact fE _ _<|s3 _ _ g
   have nl:∀ {b:BF}{o:HO},H b=some o->¬ Wr b o->b∉Z.own a:=λe no z=>by obtain⟨_,ob,g,wr⟩:=ow _ z;rw[e] at g;cases g;exact no wr
   have nn:∀ {b:BF},H b=none->b∉Z.own a:=λe z=>by obtain⟨_,ob,g,_⟩:=ow _ z;rw[e] at g;cases g
   have hN:∀ {b:BF},s.heap.get? b=none->H b=none:=λ{b} e=>by
    cases g:H b with
    |none=>rfl
    |some u=>obtain⟨ob,q2⟩:=nX<|e0.hok b u g;rw[e] at q2;cases q2
   have smM:Smp (fJ (Z.own a) F3 H):=λb o e=>by
    by_cases hbl:b∈Z.own a
    ·unfold fJ at e;rw[if_pos hbl] at e;exact sm3 _ o e
    ·cases g:F3 b with
     |some o'=>have:=fE (as:=Z.own a) (H:=H) b o' g;rw[e] at this;cases this;exact sm3 b o g
     |none=>rw[fS hbl g] at e;exact sm b o e
   refine⟨x,T,fJ (Z.own a) F3 H,rfl,os,bare,⟨λb o g n hb hx=>un.keep b o g (sU.free n) hb hx,λb o g n hb hx=>un.slot b o g (sU.free n) hb hx,λb o g n hx=> ?_,un.there,λb xs e=>sH _ _ (nl e λz=>z) e,λb o u e=>sH _ _ (nl e λz=>z) e,λb ps e=>⟨#[],by rw[sH _ _ (nl e λz=>z) e];simp⟩⟩,λb o e=> ?_,⟨?_,ex.new, ?_,ex.newT,ex.obj⟩,q x _ sH smM⟩
   ·rw[fS (nn n)<|un.free b o g (sU.free n) hx];exact n
   ·have z:=smM b o e
    by_cases hbl:b∈Z.own a
    ·have e':F3 b=some o:=by unfold fJ at e;rw[if_pos hbl] at e;exact e
     exact(hk b o e').smp z
    ·cases g:F3 b with
     |some o'=>have:=fE (as:=Z.own a) (H:=H) b o' g;rw[e] at this;cases this;exact(hk b o g).smp z
     |none=>
      rw[fS hbl g] at e
      have n:F b=none:=by
       cases g2:F b with
       |none=>rfl
       |some o2=>rw[s3 _ _ g2] at g;cases g
      have st:=(e0.hok b o e).smp (F:=λ_=>none) z
      have:ObjOk P w (fun _=>none) s'.heap b o:=st.stay (fun b2 u hb2 gg=>by
       rcases hb2 with rfl|hb2
       ·exact keepO _ o hbl e n u gg
       ·cases hb2) (λb2 hb2=>nomatch hb2) λb2 xs hb2=>nomatch hb2
      exact this.smp z
   ·rw[fS (nn<|hN ex.new) ex.free];exact hN ex.new
   ·rw[fS (nn<|hN ex.newT) ex.freeT];exact hN ex.newT
  |ok flw=>
   cases flw with
   |ret u=>obtain⟨_,_,_,_,_,_,_,z⟩:=hrr;exact z.elim
   |_=>exact hrr
variable {Z:Lent K}{mg:Str->Option BD}{base:BH}{qual:Str}{st:BJ}{f:BF}{fd:AN}{N ps:List Str}{k:Nat}{C:Z.α->List D->Prop}{cls:BD}
theorem aIV(F:Fun K x qual st f fd)(S:fK N ps (aK st))
  (body:∀ (cdv:BD) (A:BG) (outer:List Env) (s:BE) (H:Hp) (E:XK) (B:Hp) (hB:∀b o,H b=some o→mY o→B b=some o),Room k (A.deeper (Ag qual (aK st) s.heap.objs.size f cdv))→(∀x H',Same B H'→Smp H'→E (.ref x) (some x) H')→∀a ds,ds.length+1=ps.length→C a ds→
   PSd (reB (jB (CX1 P w cls) P w K mg base N qual (aK st) f cdv A outer s H E) B hB) (jQ Z N.length a ds) (cM st) {nx:=λ_=>False,rt:=λ_=>False})
  (hw:∀ (a:Z.α) (v:V) (F H:Hp) (b:BF) (o:HO),Z.G a v F H->b∈Z.own a->H b=some o->¬ mY o):FnOk P w K mg base (CX1 P w cls) (k+1) f fd ps (aKZ Z ps.length C):=by
 obtain⟨oc,od,kV,doc,pm,an,cdv,ct,osl,rfl,lk,hcd⟩:=F.ex;refine aFK lk hcd S (λvs H Q E h=>h.1) λA outer s H vs Q E hr h=> ?_
 obtain⟨hl,v,us,F0,a,ds,rfl,sF,hH,sm,so,nd,rl,c,q⟩:=h;have hds:ds.length+1=ps.length:=by rw[<-rl.len];exact hl
 have hB:∀b o,H b=some o->mY o->F0 b=some o:=λb o e no=>by
  by_cases hbl:b∈Z.own a
  ·obtain⟨_,_,_,gg⟩:=so;exact absurd no<|hw a _ F0 H b o (gg F0 H (Same.refl _) λ_ _ _ e=>e) hbl e
  ·rw[<-hH b hbl];exact e
 refine⟨_,pss_w,zQ (B:=F0) (hb:=hB) ?_⟩;have hlen:N.length-(us.length+1)=N.length-(ds.length+1):=by rw[rl.len]
 have S0:StF K F0 F0 H (L2.start N (v::us)) (jQ Z N.length a ds):=by
  refine⟨Same.refl _,sF,sm, ?_, ?_⟩
  ·unfold L2.start jQ;show SlotsOk K F0 _ (_::_) (some v::(us.map some++eC (N.length-(us.length+1)) none));rw[hlen];exact⟨_,_,rfl,so,gT (m:=0) rl⟩
  ·unfold jQ;rw[lB,hX,bG];exact nd
 exact(body cdv A outer s _ E F0 hB hr q a ds hds c (L2.start N (v::us)) F0 _ S0).imp (λ_ _ ⟨_,_,_,_,z⟩=>z.elim) (λ_ _ ⟨_,_,z⟩=>z.elim) (λ_ _ ⟨_,_,_,_,z⟩=>z.elim) λ_ _ ⟨_,_,_,_,z⟩=>z.elim
theorem pJ{scope:Scope}{cdv:BD}{outer:List Env}{B:Hp}{E:XK}{hB:∀b o,H b=some o->mY o->B b=some o}(hE:∀x H',Same B H'->Smp H'->E (.ref x) (some x) H'):Takes (reB (jB (CX1 P w cls) P w K mg base N qual scope f cdv A outer s H E) B hB) cls sd:=λpins σ F H' s' a T I S x _=>wK (X:=reB (jB (CX1 P w cls) P w K mg base N qual scope f cdv A outer s H E) B hB) (E:=E) I rfl ⟨rfl,rfl⟩ x<|hE a H' (λb o e=>S.sub _ _<|S.base _ _ e) S.smp
structure jH(P:AE)(w:AL)(K:aA)(Z:Lent K)(mg:Str->Option BD)(base:BH)(x:Str)(k n:Nat)(C:Z.α->List D->Prop)(cls:BD):Prop where
 ex:∃ (f:BF) (fd:AN) (ps:List Str),mg x=some (.ref f)/\cG K (.ref f)=true/\Binds K fd ps []/\FnOk P w K mg base (CX1 P w cls) k f fd ps (aKZ Z n C)
variable {b:Expr}{es:List Expr}{p apos:Pos}{Cl:BF}{m g:Str}{pins:List (BF×BI)}{s':BE}{ev:BD}
theorem aBj{as:List BF}{sd2:List Slot}(hex:X.ex=[])(I:Inv X pins σ H s)(S:StF X.K X.B₀ F H σ sd2)(na:∀b∈as,F b=none/\b∉bU sd2)(h:CX1 X.prog X.w cls X.stack H s (λ_ _ H'=>(∀b o,b∉as->H b=some o->H' b=some o)/\Smp H') ev s')(ht:Takes X cls sd2):X.xe ev s':=by
 obtain⟨a,T,H',rfl,os,bare,un,hok,x,sH,smH⟩:=h;have I2:Inv X pins σ H' s':=I.call' os un hok bare (λb z=>absurd z<|by simp)
 have fr:∀b,s.heap.get? b=none->X.s₀.heap.get? b=none:=λb q=>by
  cases g:X.s₀.heap.get? b with
  |none=>rfl
  |some o=>obtain⟨o1,q1⟩:=I.base.there b o g (λhb=>by rw[hex] at hb;cases hb);rw[q] at q1;cases q1
 have nw:∀b,s.heap.get? b=none->∀p∈X.pn++pins,p.1≠b:=λb q p hp z=>by have:=(I.pin p hp).1;rw[z,q] at this;cases this
 exact ht pins σ F H' s' a T I2 ⟨S.base,λb o e=>sH b o (λz=>by rw[(na b z).1] at e;cases e)<|S.sub _ _ e,smH,S.slots.mono (Same.refl _) λl hl=>⟨(S.slots.owns hl).1,λob e=>sH _ _ (λz=>(na l z).2 hl) e⟩,S.nd⟩ ⟨x.free,fr a x.new,x.freeT,fr T x.newT,x.obj⟩ λp hp=>⟨nw a x.new p hp,nw T x.newT p hp⟩
theorem aJo{Z:Lent X.K}{a:Z.α}(hs:sd[i]? =some (Z.sl a))(S:StF X.K X.B₀ F H σ sd):∀b∈Z.own a,F b=none/\b∉bU (sd.set i .un):=λb hb=>by obtain⟨o,_,v,_,ow,_⟩:=S.slots.get hs;exact⟨(ow b hb).1,gF S.nd hs (show b∈fC (Z.sl a) from hb)⟩
theorem aEH{pl:Sem Bool}{Z:Lent X.K}{C:Z.α->List D->Prop}{a:Z.α}(i:Nat)(hs:sd[i]? =some (Z.sl a))(hxi:PE X (.Name x p2) (iI i))(hi:∀F H,Z.G a (.ref<|Z.ad a) F H->aIK X.K Cl m (Z.ad a) F)(c:Cls X.K Cl)(hm:aKW X.K Cl m f)(G:FnOk X.prog X.w X.K X.mg X.base (CX1 X.prog X.w cls) k f fd ps (aKZ Z n C))(hr:Room k X.A)(bd:Binds X.K fd ps [])(ha:PAd X sd (e::es) (ds.map R.val))(hc:C a ds)(hn:ds.length+1=n)(ht:Takes X cls (sd.set i .un))(hex:X.ex=[]:=by rfl)
  (hst:AB (e::es) X.env=(false,eval e X.env)::AB es X.env:=by rfl) (hpl:(Aa pos<|AB es X.env).any (·.1)=false:=by rfl)
  (ht2:eval (.Call (.Attribute (.Name x p2) m apos) (e::es) [] pos) X.env=(do
   let ov <-eval (.Name x p2) X.env
   standAt apos.atName
   let (f,first) <-holding [ov] (getMethod ov m pl)
   callWith pos f first (Aa pos (AB (e::es) X.env)) (backToKw pos (keywordEach [] X.env))):=by rfl):
  PEx X sd (.Call (.Attribute (.Name x p2) m apos) (e::es) [] pos):=⟨fun σ F H S pins s I=>by
 obtain⟨o0,h1,v,h2,_,gg⟩:=S.slots.get hs;have g0:=gg F H (Same.refl _) λ_ _ _ e=>e
 have ev:=Z.hv g0;subst h2 ev;obtain⟨dx,od,mA,e1,e2,ne,ns,hmA⟩:=hi F H g0;refine aAD (pl:=pl) (thn (hxi pins s σ H (λv' H'=>v'=.ref (Z.ad a)/\H'=H) I ⟨.ref<|Z.ad a,h1,rfl,rfl⟩) λu s1 ⟨v',H',I1,r1,ev,eH⟩=> ?_) ht2;subst ev eH;cases(show u=Value.ref (Z.ad a) from r1);have g1:s1.heap.get? (Z.ad a)=some (cB Cl dx):=(I1.hok _ _<|S.sub _ _ e1).1;have g2:s1.heap.get? dx=some od:=(I1.hok dx _<|S.sub _ _ e2).1;refine aBc I1.kIn ⟨g1,ns _ g2,ne⟩ (c.get m) hm.at_ hm.fn hmA ?_;refine eE (first:=[.ref<|Z.ad a]) (h₀:=X.base) I.ok.mod.kin hm.kp (thn ((qT:PA X (e::es) _) pos pins s1 σ H' _ I1<|ha σ F H' S) λus s2 ⟨vs,H2,I2,r,F1,S1,s1',q1⟩=>⟨I2.kIn, ?_⟩) hst hpl;obtain⟨o1,q2,so⟩:=S1.slots.get hs
 have eo:o1=some (.ref<|Z.ad a):=by rw[h1] at q2;exact(bM.inj q2).symm
 subst eo
 refine tQ (us:= .ref (Z.ad a)::us) (vs:= .ref (Z.ad a)::vs) (dvs:=[]) (dws:=[]) (Q:=fun _ _=>False) (Ex:=fun _ _ H'=>(∀b o,b∉Z.own a→H2 b=some o→H' b=some o)∧Smp H') (FnOk.framedX G) hr bd .nil I2 (.cons rfl r) (by
  rw[bG]
  exact⟨by rw[bD,q1.vals.len];exact hn,S1.smp,.ref (Z.ad a),vs,F1,a,ds,rfl,S1.sub,so,gU S1.nd hs,q1.vals,hc,λx H' z1 z2=>⟨z1,z2⟩⟩) λe s' hcx=> ?_
 exact aBj hex I2 (S1.le (gB sd i)) (aJo hs S1) hcx ht⟩
theorem yA{e0:Expr}{Z:Lent X.K}{C:Z.α->List D->Prop}(js:List Nat)(h0:PSo X sd e0 Z)(G:jH X.prog X.w X.K Z X.mg X.base g k n C cls)(hr:Room k X.A)(hg:Gl X g)(ha:PA X es (aFJ js))(hj:js.map (λj=>sd[j]?)=ds.map λd=>some<|Slot.val d)(hc:∀a,C a ds)(hn:ds.length+1=n)(ht:Takes X cls sd)(hex:X.ex=[]:=by rfl)
  (hdb:(g==("__debug__":Str))=false:=by decide) (he:AB (e0::es) X.env=(false,eval e0 X.env)::AB es X.env:=by rfl) (hpl:(Aa pos<|AB es X.env).any (·.1)=false:=by rfl):
  PEx X sd (.Call (.Name g p) (e0::es) [] pos):=⟨fun σ F H S pins s I=>by
 obtain⟨fa,fd,ps,hm,hkp,bd,G⟩:=G.ex;refine AR<|kN I hg hm ?_ hdb
 refine eE (h₀:=X.base) I.ok.mod.kin hkp (thn ((cY eR ha he) pos pins s σ H (fun vs H'=>∃v us F1 a,vs=v::us∧StF X.K X.B₀ F1 H' σ sd∧RepL X.K F1 ds us∧dM X.K F1 H' (Z.sl a) (some v)∧(Z.own a).Nodup∧∀l∈Z.own a,l∉bU sd) I ((h0.run σ F H S).imp fun v H1 ⟨F1,a,S1,s1,so,nd,no⟩=>by
  obtain⟨us,rl,q⟩:=sA S1 hj
  exact q H1 _ ⟨v,us,F1,a,rfl,S1,rl,so,nd,no⟩)) λus s1 ⟨vs,H1,I1,r,v,us',F1,a,ev,S1,rl,so,nd,no⟩=>⟨I1.kIn, ?_⟩) he hpl
 subst ev
 refine tQ (dvs:=[]) (dws:=[]) (Q:=fun _ _=>False) (Ex:=fun _ _ H'=>(∀b o,b∉Z.own a→H1 b=some o→H' b=some o)∧Smp H') (FnOk.framedX G) hr bd .nil I1 r (by
  rw[bG]
  exact⟨by rw[bD,rl.len];exact hn,S1.smp,v,us',F1,a,ds,rfl,S1.sub,so,nd,rl,hc a,λx H' z1 z2=>⟨z1,z2⟩⟩) λe s' hcx=> ?_
 obtain⟨_,_,ow,_⟩:=so
 exact aBj hex I1 S1 (λb hb=>⟨(ow b hb).1,no b hb⟩) hcx ht⟩
theorem aJP{r0:R}{e2:Expr}(hg:Gl X g)(hm:X.mg g=some (.ref f))(hkp:cG X.K (.ref f)=true)(h1:PEd X sd e r0)(h:PEx X sd e2)
  (hdb:(g==("__debug__":Str))=false:=by decide) (he:AB (e::e2::es) X.env=(false,eval e X.env)::AB (e2::es) X.env:=by rfl) (he2:AB (e2::es) X.env=(false,eval e2 X.env)::AB es X.env:=by rfl) (hpl:(Aa pos<|AB (e2::es) X.env).any (·.1)=false:=by rfl):
  PEx X sd (.Call (.Name g p) (e::e2::es) [] pos):=⟨fun σ F H S pins s I=>by
 refine AR<|kN I hg hm ?_ hdb
 exact eE (h₀:=X.base) I.ok.mod.kin hkp (thn ((cY eR (cY eR qT he2) he) pos pins s σ H (λ_ _=>False) I ((h1 σ F H S).imp λv H1 ⟨F1,S1,s1,q1⟩=>(h.run σ F1 H1 S1).imp λ_ _ z=>z.elim)) λus s1 ⟨vs,H1,I1,r,z⟩=>z.elim) he hpl⟩
def Gr(p:Int×Int)(L:List SK)(b:Int):Prop:=b<=300/\500<(bkF p L b).length
def aIf:List D->Prop:=λds=>∃p L b,p∈bW/\StkOk p L/\Gr p L b/\ds=[.lst (L.map<|mvD p),.int b,.tup (bT<|st0 p)]
def tT:List D->Prop:=λds=>∃p L b,p∈bW/\StkOk p L/\(L.map λs=>sqD s.1).Nodup/\Gr p L b/\ds=[cJ p,.lst<|L.map skD,.int b]
variable {tg iter o:Expr}{r ra rb:R}{d:D}{rest:List BJ}
structure aHw(dv:Array BD)(K:aA)(x qual:Str)(st:BJ)(f:BF)(fd:AN):Prop where
 ex:∃ (oc:BD) (od:Option BF) (T:BF) (kV doc pm:BD) (an:Option BF) (cdv ct:BD) (osl:Array (Option BD)) (tc:BD) (td:Option BF) (n:Nat) (tsl:Array (Option BD)),
  fd=bY x qual (dW st) (cM st) (aK st) (.ref T) kV doc pm an cdv ct/\K.lookup f=some ⟨oc,od,.func fd,osl⟩/\eL K cdv qual=true/\K.lookup T=some ⟨tc,td,.seq dv n,tsl⟩
 kp:cG K (.ref f)=true
structure CalleeE(xs:List BD)(P:AE)(w:AL)(K:aA)(mg:Str->Option BD)(base:BH)(x:Str)(k n:Nat)(C:List D->R->Prop):Prop where
 ex:∃ (f:BF) (fd:AN) (ps:List Str),mg x=some (.ref f)/\cG K (.ref f)=true/\Binds K fd ps []/\Binds K fd ps xs/\FnOk P w K mg base CX0 k f fd ps (spC K n C)
theorem CalleeE.full{xs:List BD}{C:List D->R->Prop}(G:CalleeE xs P w K mg base x k n C):bF P w K mg base x k n C:=by obtain⟨f,fd,ps,a,b,c,_,d⟩:=G.ex;exact⟨f,fd,ps,a,b,c,d⟩
theorem aDC{dv:Array BD}{xs:List BD}{C:List D->R->Prop}(F:aHw dv K x qual st f fd)(S:fK N ps (aK st))
  (hm:mg x=some (.ref f)) (hb:∀ (s:BE) (T:BF) (o:BI) (nn:Nat) (kV doc pm:BD) (an:Option BF) (cdv ct:BD) (us:List BD),s.heap.get? T=some o->o.data=.seq dv nn->us.length=ps.length->BindsTo s (bY x qual (dW st) (cM st) (aK st) (.ref T) kV doc pm an cdv ct) ⟨us,[]⟩ (ps.zip us))
  (hb2:∀ (s:BE) (T:BF) (o:BI) (nn:Nat) (kV doc pm:BD) (an:Option BF) (cdv ct:BD) (us:List BD),s.heap.get? T=some o->o.data=.seq dv nn->us.length+xs.length=ps.length->BindsTo s (bY x qual (dW st) (cM st) (aK st) (.ref T) kV doc pm an cdv ct) ⟨us,[]⟩ (ps.zip<|us++xs))
  (body:∀ (cdv:BD) (A:BG) (outer:List Env) (s:BE) (H:Hp) (E:XK),Room k (A.deeper (Ag qual (aK st) s.heap.objs.size f cdv))→∀ds r,ds.length=ps.length→C ds r→
   PSd (jB CX0 P w K mg base N qual (aK st) f cdv A outer s H E).nox (init N.length ds) (cM st) {nx:=λ_=>r=.val .non,rt:=λr'=>r'=r}):CalleeE xs P w K mg base x (k+1) ps.length C:=by
 obtain⟨oc,od,T,kV,doc,pm,an,cdv,ct,osl,tc,td,n,tsl,rfl,lk,hcd,lT⟩:=F.ex;refine⟨f,bY x qual (dW st) (cM st) (aK st) (.ref T) kV doc pm an cdv ct,ps,hm,F.kp,λs us KX hl=> ?_,λs us KX hl=> ?_, ?_⟩
 ·rw[bG] at hl ⊢;exact hb s T _ n kV doc pm an cdv ct us (KX T _ lT) rfl hl
 ·exact hb2 s T _ n kV doc pm an cdv ct us (KX T _ lT) rfl (by rw[<-hl,aN])
 ·refine aFK lk hcd S (λvs H Q E h=>h.1) λA outer s H vs Q E hr h=> ?_
  obtain⟨hl,sm,ds,r,rl,c,q⟩:=h;have hds:ds.length=ps.length:=by rw[<-rl.len];exact hl
  refine⟨_,pss_w.nox, ?_⟩;have hlen:N.length-vs.length=N.length-ds.length:=by rw[rl.len]
  have S0:StF K H H H (L2.start N vs) (init N.length ds):=by
   refine⟨Same.refl _,Same.refl _,sm, ?_, ?_⟩
   ·unfold L2.start init;rw[hlen];exact gT (m:=0) rl
   ·unfold init;rw[hX];exact cI
  refine(body cdv A outer s H E hr ds r hds c (L2.start N vs) H H S0).imp ?_ ?_ (λ_ _ ⟨_,_,_,_,z⟩=>z) λ_ _ ⟨_,_,_,_,z⟩=>z
  ·rintro σ' H' ⟨sd',F',S',s',e⟩;have e:r=.val .non:=e;subst e;exact q .non H' ⟨F',S'.base,S'.sub,S'.smp,by simp only[ResOk,Rep]⟩
  ·rintro v H' ⟨r',ro,e⟩;have e:r'=r:=e;subst e;exact q v H' ro
theorem aJn{T:BF}{oc kV doc pm cdv ct tc:BD}{od an td:Option BF}{osl tsl:Array (Option BD)}{dv:Array BD}
  (l:K.lookup f=some ⟨oc,od,.func<|bY x qual (dW st) (cM st) (aK st) (.ref T) kV doc pm an cdv ct,osl⟩) (c:eL K cdv qual=true) (k:cG K (.ref f)=true) (t:K.lookup T=some ⟨tc,td,.seq dv n,tsl⟩):
  aHw dv K x qual st f (bY x qual (dW st) (cM st) (aK st) (.ref T) kV doc pm an cdv ct):=⟨⟨_,_,_,_,_,_,_,_,_,_,_,_,_,_,rfl,l,c,t⟩,k⟩
theorem uP{dv:Array BD}{C:List D->Prop}(F:aHw dv K x qual st f fd)(S:fK N ps (aK st))
  (hm:mg x=some (.ref f)) (hb:∀ (s:BE) (T:BF) (o:BI) (nn:Nat) (kV doc pm:BD) (an:Option BF) (cdv ct:BD) (us:List BD),s.heap.get? T=some o->o.data=.seq dv nn->us.length=ps.length->BindsTo s (bY x qual (dW st) (cM st) (aK st) (.ref T) kV doc pm an cdv ct) ⟨us,[]⟩ (ps.zip us))
  (body:∀ (cdv:BD) (A:BG) (outer:List Env) (s:BE) (H:Hp) (E:XK),Room k (A.deeper (Ag qual (aK st) s.heap.objs.size f cdv))→(∀a H',Same H H'→Smp H'→E (.ref a) (some a) H')→∀ds,ds.length=ps.length→C ds→
   PSd (jB (CX1 P w cls) P w K mg base N qual (aK st) f cdv A outer s H E) (init N.length ds) (cM st) {nx:=λ_=>False,rt:=λ_=>False}):eW P w K mg base x (k+1) ps.length C cls [] []:=by
 obtain⟨oc,od,T,kV,doc,pm,an,cdv,ct,osl,tc,td,n,tsl,rfl,lk,hcd,lT⟩:=F.ex;refine⟨f,bY x qual (dW st) (cM st) (aK st) (.ref T) kV doc pm an cdv ct,ps,hm,F.kp,λs us KX hl=> ?_,.nil,aPg lk hcd S<|body cdv⟩;rw[bG] at hl ⊢;exact hb s T _ n kV doc pm an cdv ct us (KX T _ lT) rfl hl
noncomputable def pwQ(L:List SK)(row:List Nat)(pl mn:Nat):Int:=sM (sL L<|(row.drop pl).take mn)-1
structure aPu(p:Int×Int)(L:List SK)(b:Nat):Prop where
 hp:p∈bW
 st:StkOk p L
 nd:(L.map λs=>sqD s.1).Nodup
 gr:Gr p L (b:Int)
structure McZ(p:Int×Int)(L:List SK)(row:List Nat)(o:Option (List Nat)):Prop where
 hp:p∈bW
 st:StkOk p L
 nd:(L.map λs=>sqD s.1).Nodup
 rw:gC L row
 rl:row.length<=30
 lk:aLa p o
structure PcX(p:Int×Int)(L:List SK)(row:List Nat)(pl mn:Nat)(o:Option (List Nat)):Prop where
 rw:∀t∈row,t<L.length
 rl:row.length<=100
 m1:1<=mn
 le:pl+mn<=row.length
 lk:aLa p o
 bk:∃b:Nat,sM (sL L<|(row.drop pl).take mn)-1=(b:Int)/\aPu p L b
theorem aLQ{p:Int×Int}{L:List SK}(S:StkOk p L):∀ {row:List Nat},gC L row->(row.length:Int)<=S45.prQ (prK L) row/\S45.prQ (prK L) row<=9*row.length
 |[],_=>⟨xB _,xB _⟩
 |k::r,h=>by
  obtain⟨h1,h2⟩:=aLQ S (row:=r) λi hi=>h i<|aE _ hi
  obtain⟨_,h3,h4⟩:=S.st _<|getD_mem (d:=(AQ:SK)) (h k<|aG ..);have e:S45.prQ (prK L) (k::r)=(L.getD k AQ).2+S45.prQ (prK L) r:=by unfold S45.prQ;rw[aW,aBI];rfl
  rw[e,bD];omega
theorem McZ.bd{p:Int×Int}{o:Option (List Nat)}(I:McZ p L row o){pl mn:Nat}(m1:1<=mn)(hw:pl+mn<=row.length):∃b:Nat,pwQ L row pl mn=(b:Int)/\b<=300:=by
 have hl:((row.drop pl).take mn).length=mn:=by rw[dH,fM];omega
 have ok:gC L ((row.drop pl).take mn):=λt ht=>I.rw t (dP<|dQ ht)
 obtain⟨h1,h2⟩:=aLQ I.st ok;rw[hl] at h1 h2;have:=I.rl;unfold pwQ;rw[aHF];exact⟨(S45.prQ (prK L) ((row.drop pl).take mn)-1).toNat,by omega,by omega⟩
theorem McZ.pc{p:Int×Int}{o:Option (List Nat)}(I:McZ p L row o){pl mn:Nat}(m1:1<=mn)(hw:pl+mn<=row.length)(g:¬ 500<(bkF p L<|pwQ L row pl mn).length):aLd p L row pl mn o:=by obtain⟨b,eb,hb⟩:=I.bd m1 hw;rw[eb] at g;exact⟨I.rw,by have:=I.rl;omega,m1,hw,I.lk,b,eb,I.hp,I.st,I.nd,⟨I.st.le,by omega,by omega⟩,by omega⟩
theorem McZ.px{p:Int×Int}{o:Option (List Nat)}(I:McZ p L row o){pl mn:Nat}(m1:1<=mn)(hw:pl+mn<=row.length)(g:500<(bkF p L<|pwQ L row pl mn).length):PcX p L row pl mn o:=by obtain⟨b,eb,hb⟩:=I.bd m1 hw;rw[eb] at g;exact⟨I.rw,by have:=I.rl;omega,m1,hw,I.lk,b,eb,I.hp,I.st,I.nd,by omega,g⟩
structure aNV(K:aA)(mg:Str->Option BD)(CN:BF):Prop where
 ex:iT K CN aNJ "ValueError.__new__"=true
 nw:mg "TooGreat"=some (.ref CN)/\jL K (.ref CN) (.ref CN)=some true
def aPi{α:Type}(p:Int×Int)(L:List SK):α->List D->Prop:=λ_ ds=>∃b:Nat,aPu p L b/\ds=[.int (b:Int)]
def XPf{α:Type}(p:Int×Int)(L:List SK):α->List D->Prop:=λ_ ds=>∃row pl mn o,PcX p L row pl mn o/\ds=[.tup<|bT row,.int (pl:Int),.int (mn:Int),lkD o]
def aIQ:List D->Prop:=λds=>∃p L row pl mn o,PcX p L row pl mn o/\ds=[cJ p,.lst<|L.map skD,.tup<|bT row,.int (pl:Int),.int (mn:Int),lkD o]
def excG(cls:BD):V->Hp->Prop:=λv H=>∃a oe,v=.ref a/\H a=some (exO a oe)/\oe.cls=cls
noncomputable def vB(cls:BD):D:=.any<|excG cls
variable {a:BF}
theorem aJX{oe:BI}(I:Inv X pins σ H s)(hn:H a=none)(he:s.heap.get? a=some oe)(h0:X.s₀.heap.get? a=none)(hl:X.env.locals≠a)(hc:∀v,oe.data≠ .cell v)(hp:∀p∈X.pn++pins,p.1≠a):Inv X pins σ (upd H a<|exO a oe) s:=by
 have nn:∀ {b o},H b=some o->b≠a:=λe z=>by rw[z,hn] at e;cases e
 refine⟨I.ok,I.os,I.bare,⟨I.base.keep,I.base.slot,λb o e n hx=> ?_,I.base.there,λb xs e=> ?_,λb u xs e=> ?_,λb ps e=> ?_⟩,I.loc,I.cell, ?_,λx c e=> ?_,λp hp'=> ?_,λb u e=> ?_,I.len⟩
 ·rw[aR λz=>by rw[z,h0] at e;cases e];exact I.base.free b o e n hx
 ·have q:=I.base.tups b xs e;rw[aR<|nn q];exact q
 ·have q:=I.base.frzs b u xs e;rw[aR<|nn q];exact q
 ·obtain⟨m,q⟩:=I.base.tbls b ps e;exact⟨m,by rw[aR<|nn q];exact q⟩
 ·rw[aR hl];exact I.free
 ·have ne:c≠a:=λz=>by obtain⟨v,o,g,d⟩:=I.cell x c e;rw[z,he] at g;cases g;exact hc v d
  rw[aR ne];exact I.freeC x c e
 ·obtain⟨g,n,r⟩:=I.pin p hp';exact⟨g,by rw[aR<|hp p hp'];exact n,r⟩
 ·by_cases hb:b=a
  ·subst hb;rw[bJ] at e;cases e;exact nQ he
  ·rw[aR hb] at e;exact(I.hok b u e).stay (λc v _ q=>q) (λc q=>by rw[aR<|nn q];exact q) λc xs q=>by rw[aR<|nn q];exact q
theorem uE{body suite:List BJ}{b₀:BJ}{xE n:Str}{np hpos:Pos}{CE:BF}(j:Nat)(hN:X.N.Nodup)(hj:X.N[j]? =some n)(hloc:X.env.scope.names.lookup n=some .local)(hg:Gl X xE)(hm:X.mg xE=some (.ref CE))(hmt:jL X.K cls (.ref CE)=some true)
  (hb:∀ (ξ:BD->BE->Prop) (pn:List (BF×BI)) (F:Hp),Takes {X with H₀:=F,B₀:=F,hB:=λ_ _ e _=>e,xe:=ξ,pn:=pn} cls sd->PSd {X with H₀:=F,B₀:=F,hB:=λ_ _ e _=>e,xe:=ξ,pn:=pn} sd body {nx:=λ_=>False,rt:=λ_=>False})
  (hh:∀ (a:BF) (pn:List (BF×BI)),PSd {X with A:=X.A.mark (some<|.ref a),calm:=false,pn:=pn,xe:=λ_ _=>False} (sd.set j (.val<|vB cls)) (b₀::suite) {nx:=λsd'=>E.nx<|sd'.set j .un,rt:=λ_=>False})
  (hB₀:X.B₀=X.H₀:=by rfl) (hex:X.ex=[]:=by rfl) (hst:X.stack=X.env::X.outer/\X.env.frame=some X.env.locals:=by exact⟨rfl,rfl⟩) (hdb:(xE==("__debug__":Str))=false:=by decide):
  PSd1 X sd (.Try body [.ExceptHandler (some<|.Name xE np) (some n) (b₀::suite) hpos] [] [] pos) E:=.mk λσ F H S pins s I=>by
 rw[hB₀] at S;obtain⟨ξ,hξ⟩:∃ξ:BD->BE->Prop,ξ=λe s'=>∃a T σ' F' H',e=.ref a/\Inv X pins σ' H' s'/\StF X.K F F' H' σ' sd/\Exc X.s₀.heap s'.heap H' a T cls/\∀p∈X.pn++pins,p.1≠a/\p.1≠T:=⟨_,rfl⟩
 have I':Inv {X with H₀:=F,B₀:=F,hB:=λ_ _ e _=>e,xe:=ξ,pn:=X.pn++pins} [] σ H s:=aMz I S rfl;have S':StF X.K F F H σ sd:=⟨Same.refl _,S.sub,S.smp,S.slots,S.nd⟩
 have tk:Takes {X with H₀:=F,B₀:=F,hB:=λ_ _ e _=>e,xe:=ξ,pn:=X.pn++pins} cls sd:=λpins' σ' F' H' s' a T I2 S2 x2 hp=>by show ξ _ _;rw[hξ];exact⟨a,T,σ',F',H',rfl,aMD I S rfl I2,S2,x2,λp hp'=>hp p<|bL _ hp'⟩
 refine wpAny_Try_except<|AX (hb ξ (X.pn++pins) F tk σ F H S' [] s I') (λf s1 q=> ?_) λe s1 hx=> ?_
 ·cases f with
  |next=>obtain⟨_,_,_,_,_,_,_,z⟩:=q;exact z.elim
  |brk=>obtain⟨_,_,_,_,_,_,_,z⟩:=q;exact z.elim
  |cont=>obtain⟨_,_,_,_,_,_,_,z⟩:=q;exact z.elim
  |ret u=>obtain⟨_,_,_,_,_,_,_,z⟩:=q;exact z.elim
 ·have hx:ξ e s1:=hx;rw[hξ] at hx;obtain⟨a,T,σ1,F1,H1,rfl,I1,S1,x1,hp⟩:=hx;have hd:aLh X pins σ1 H1 s1 a T cls .none:=⟨I1,⟨x1.free,x1.new,λp h=>(hp p h).1⟩,⟨x1.freeT,x1.newT,λp h=>(hp p h).2⟩,x1.obj⟩;refine aFh hst I.ok.frames hex hd λh2 T2 hd2=> ?_
  refine sI hst hd2 λh3 hd3=> ?_
  have LT:PySem.W.Looks (AG X.prog X.w) h3 (typeOf<|.ref a) cls:=by obtain⟨oe,vs,oT,ts,a0,he,hc,_⟩:=hd3.obj;exact hc.1▸(PySem.W.Looks.ld he).andThen .now
  refine wpAny_handleBy_cons (codeAny_handlers_test<|Calls.Name_function_global hd3.inv.ok.kind hg (Calls.loadGlobal_global (by rw[hd3.inv.ok.glob];exact hd3.inv.mod.glob.keeps hd3.inv.bk) hm<|(PySem.W.exm_one hd3.inv.kIn LT hmt).at ?_) hdb) (by intro q;cases q);refine codeAny_handlers_suite_as<|sI hst hd3 λh4 hd4=> ?_;obtain⟨oe,vs,oT,ts,a0,he,hc,hdt,_⟩:=hd4.obj
  have hl:X.env.locals≠a:=λz=>by obtain⟨m,⟨o,es,ep,ho,r,_⟩,_⟩:=hd4.inv.loc;rw[z] at ho;have:oe=o:=bM.inj<|he.symm.trans ho;rw[<-this,hdt] at r;cases r
  have I5:=aJX hd4.inv hd4.fa.1 he hd4.fa.2.1 hl (λv z=>by rw[hdt] at z;cases z) hd4.fa.2.2;have S1':StF X.K X.B₀ F1 H1 σ1 sd:=hB₀▸⟨λb o e=>S1.base _ _<|S.base _ _ e,S1.sub,S1.smp,S1.slots,S1.nd⟩;obtain⟨S5,s5⟩:=S1'.lay (o:=exO a oe) hd4.fa.1 trivial;refine wM (v:=.ref a) I5 hN hj (.inl hloc) rfl (λs6 I6=> ?_)<|.inr hloc
  have I7:Inv {X with A:=X.A.mark (some<|.ref a),calm:=false,pn:=X.pn++pins,xe:=λ_ _=>False} [] (σ1.set j (some<|.ref a)) (upd H1 a<|exO a oe) s6:=
   ⟨⟨I6.ok.mod,I6.ok.kind,I6.ok.glob,I6.ok.blt,I6.ok.above,I6.ok.inj,I6.ok.has,I6.ok.cab,λz=>(by cases z),I6.ok.frames,I6.ok.stk,I6.ok.exf,I6.ok.bs,I6.ok.bsz,I6.ok.noex,I6.ok.exfs,I6.ok.funs,I6.ok.frf⟩,I6.os,I6.bare,I6.base,I6.loc,I6.cell,I6.free,I6.freeC,λp hp=>by rw[bG] at hp;exact I6.pin p hp,I6.hok,I6.len⟩
  have S7:StF X.K X.B₀ (upd F1 a (exO a oe)) (upd H1 a (exO a oe)) (σ1.set j (some (.ref a))) (sd.set j (.val (vB cls))):=S5.set j (by
   simp only[vB,Rep]
   exact⟨⟨a,rfl⟩,λH' k=>⟨a,oe,rfl,k _ _ bJ,hc.1⟩⟩)
  refine AX (hh a _ (σ1.set j (some<|.ref a)) _ _ S7 [] s6 I7) (λf s8 q=> ?_) λ_ _ z=>False.elim z
  cases f with
  |next=>
   obtain⟨σ8,H8,I8,sd8,F8,S8,s8',qn⟩:=q;have I9:Inv X pins σ8 H8 s8:=⟨I.ok,I8.os,I8.bare,I8.base,I8.loc,I8.cell,I8.free,I8.freeC,λp hp=>I8.pin p (by rw[bG];exact hp),I8.hok,I8.len⟩;obtain⟨m,hn,hl⟩:=id I9.loc;refine wpAny_nameGoes_keeps hloc hn (by rw[I9.ok.kind];rfl) λh9 v hn9 hs9=> ?_
   exact⟨σ8.set j none,H8,aGX I9 hN hj hloc hn hl hn9 hs9,sd8.set j .un,F8,⟨S8.base,S8.sub,S8.smp,S8.slots.set (z:=.un) (o:=none) trivial j,(iA (z:=.un) j S8.nd (λl hl=>by cases hl) cI).1⟩,λb o e=>s8' _ _ (s5 _ _<|S1.base _ _ e),qn⟩
  |brk=>obtain⟨_,_,_,_,_,_,_,z⟩:=q;exact z.elim
  |cont=>obtain⟨_,_,_,_,_,_,_,z⟩:=q;exact z.elim
  |ret u=>obtain⟨_,_,_,_,_,_,_,z⟩:=q;exact z.elim
theorem uK{C:BF}{cv:V}{u:BD}{k:Bool}(xc:aLw X.K C)(ru:∀u',RelV cv u'->u'=u)(hk:cH X.K (.ref C) u=some k):
  mL X (.builtin "isinstance") (λxs H Q=>(∃ad oe,xs=[.ref ad,cv]/\H ad=some (exO ad oe)/\oe.cls=.ref C)/\Q (.bl k) H):=by
 intro pins s σ H xs us Q I r h;obtain⟨⟨ad,oe,rfl,g,hc⟩,q⟩:=h;obtain⟨u1,u2,rfl,r1,r2⟩:=aOZ r;cases(show u1=Value.ref ad from r1);have e:=ru u2 r2;subst e;exact PySem.W.kia_one (aGB xc) I.kIn ⟨oe,(I.hok ad _ g).1,hc⟩ hk (by intro q;cases q) λtk=>⟨.bl k,H,I.tok tk,rfl,q⟩
theorem aDQ{j:Nat}(S:StF K H₀ F H σ sd)(hs:sd[j]? =some (.val<|vB cls)):∃ad oe,σ[j]? =some (some<|.ref ad)/\H ad=some (exO ad oe)/\oe.cls=cls:=by obtain⟨o,h1,v,h2,h3⟩:=S.slots.get hs;simp only[vB,Rep] at h3;obtain⟨ad,oe,rfl,g,c⟩:=h3.2 H S.sub;subst h2;exact⟨ad,oe,h1,g,c⟩
theorem hV(j:Nat){C CE:BF}{k:Bool}{y:Str}{p1:Pos}(xc:aLw X.K C)(hg:Gl X "isinstance")(hm:X.mg "isinstance"=none)(hgx:Gl X x)(hmx:X.mg x=some (.ref CE))(hk:cH X.K (.ref C) (.ref CE)=some k)(hj:sd[j]? =some (.val (vB<|.ref C)))(hy:PE X (.Name y p1) (iI j))(hdb:(x==("__debug__":Str))=false:=by decide)
  (he:AB (.Name y p1::[.Name x p2]) X.env=(false,eval (.Name y p1) X.env)::AB [.Name x p2] X.env:=by rfl) (hpl:(Aa pos<|AB [.Name x p2] X.env).any (·.1)=false:=by rfl) (hs2:AB [.Name x p2] X.env=(false,eval (.Name x p2) X.env)::AB [] X.env:=by rfl):
  PEd X sd (.Call (.Name "isinstance" p) [.Name y p1, .Name x p2] [] pos) (.val<|.bl k):=.mk λσ F H S=>by
 obtain⟨ad,oe,h1,g,c⟩:=aDQ S hj
 exact(nJ (uK (cv:=.ref CE) xc (λu' r=>r) hk) hg hm boot_isinstance (cY hy (cY (aAo hgx hmx (v:=.ref CE) rfl hdb) pa_nil hs2) he) (by decide) (by decide) he hpl).to
  ⟨.ref ad,h1,⟨ad,oe,rfl,g,c⟩,F,S,Same.refl _,by simp only[ResOk,Rep]⟩
theorem yM(j:Nat){C:BF}{k:Bool}{y:Str}{n:String}{p1:Pos}(xc:aLw X.K C)(hg:Gl X "isinstance")(hm:X.mg "isinstance"=none)(hgx:Gl X x)(hmx:X.mg x=none)(hv:Ai x=some (.type n))(hk:cH X.K (.ref C) (.type n)=some k)(hj:sd[j]? =some (.val (vB<|.ref C)))(hy:PE X (.Name y p1) (iI j))(hn:x≠"__name__":=by decide)(hdb:(x==("__debug__":Str))=false:=by decide)
  (he:AB (.Name y p1::[.Name x p2]) X.env=(false,eval (.Name y p1) X.env)::AB [.Name x p2] X.env:=by rfl) (hpl:(Aa pos<|AB [.Name x p2] X.env).any (·.1)=false:=by rfl) (hs2:AB [.Name x p2] X.env=(false,eval (.Name x p2) X.env)::AB [] X.env:=by rfl):
  PEd X sd (.Call (.Name "isinstance" p) [.Name y p1, .Name x p2] [] pos) (.val<|.bl k):=.mk λσ F H S=>by
 obtain⟨ad,oe,h1,g,c⟩:=aDQ S hj
 exact(nJ (uK (cv:=.ty n) xc (λu' r=>r) hk) hg hm boot_isinstance (cY hy (cY (aKm hgx hmx hv hn hdb) pa_nil hs2) he) (by decide) (by decide) he hpl).to
  ⟨.ref ad,h1,⟨ad,oe,rfl,g,c⟩,F,S,Same.refl _,by simp only[ResOk,Rep]⟩
structure FnU(P:AE)(w:AL)(K:aA)(mg:Str->Option BD)(base:BH)(k:Nat)(f:BF)(fd:AN)(ps:List Str)(sp:Sp):Prop where
 len:∀vs H Q E,sp vs H Q E->vs.length=ps.length
 run:∀ (A:BG) (outer:List Env) (s:BE) (H:Hp) (args:Args) (us:List BD) (vs:List V) (Q:VK) (E:XK),Room k {A with handled:=none}->Env0 P w K mg base A outer s H->BindsTo s fd args (ps.zip us)->Vals vs us->sp vs H Q E->
  Az (AG P w) A (.call (.ref f) args) (CR CX0 outer P w H s Q E) s
theorem aCU{j:Nat}{o:Option BD}(r:Room k A)(h:j<=k):Room j {A.mark o with handled:=none}:=⟨rfl,(r.mono h).dp,(r.mono h).un,(r.mono h).gd⟩
noncomputable abbrev cxU(P:AE)(w:AL)(K:aA)(mg:Str->Option BD)(base:BH)(N:List Str)(qual:Str)(scope:Scope)(f:BF)(cd:BD)(A:BG)(outer:List Env)(s:BE)(H:Hp)(E:XK):Cx:={jB CX0 P w K mg base N qual scope f cd A outer s H E with calm:=false}
theorem aCi{scope:Scope}{cd:BD}{outer:List Env}{s1:BE}{E:XK}{us:List BD}{vs:List V}
  (S:fK N ps scope) (e0:Env0 P w K mg base A outer s H) (hl:vs.length=ps.length) (r:Vals vs us)
  (x:InCallC s s.heap.objs.size (bindL (Ag qual scope s.heap.objs.size f cd).kindOf (ps.zip us) λ_=>none) (cellsFrom (s.heap.objs.size+1) scope.names []) (bindC (Ag qual scope s.heap.objs.size f cd).kindOf (ps.zip us) λ_=>none) s1):
  Inv (cxU P w K mg base N qual scope f cd A outer s H E) [] (L2.start N vs) H s1:=by
 have e1:Env0 P w K mg base {A with handled:=none} outer s H:=⟨e0.frames,e0.mod,e0.bs,e0.bsz,e0.funs,e0.frf,e0.hok,e0.bare⟩;have I:=xZ (CX:=CX0) (N:=N) (f:=f) (A:={A with handled:=none}) (E:=E) S rfl e1 hl r x;exact⟨⟨I.ok.mod,I.ok.kind,I.ok.glob,I.ok.blt,I.ok.above,I.ok.inj,I.ok.has,I.ok.cab,λz=>(by cases z),Around.frames_deeper e0.frames,I.ok.stk,I.ok.exf,I.ok.bs,I.ok.bsz,I.ok.noex,I.ok.exfs,I.ok.funs,I.ok.frf⟩,I.os,I.bare,I.base,I.loc,I.cell,I.free,I.freeC,I.pin,I.hok,I.len⟩
theorem aJz{C:List D->R->Prop}(F:Fun K x qual st f fd)(S:fK N ps (aK st))
  (body:∀ (cdv:BD) (A:BG) (outer:List Env) (s:BE) (H:Hp) (E:XK),Room k (({A with handled:=none}:BG).deeper (Ag qual (aK st) s.heap.objs.size f cdv))→∀ds r,ds.length=ps.length→C ds r→
   PSd (cxU P w K mg base N qual (aK st) f cdv A outer s H E).nox (init N.length ds) (cM st) {nx:=λ_=>r=.val .non,rt:=λr'=>r'=r}):FnU P w K mg base (k+1) f fd ps (spC K ps.length C):=by
 obtain⟨oc,od,kV,doc,pm,an,cdv,ct,osl,rfl,lk,hcd⟩:=F.ex;refine⟨λvs H Q E h=>h.1,λA outer s H args us vs Q E hr e0 hb r hsp=> ?_⟩;obtain⟨hl,sm,ds,rr,rl,c,q⟩:=hsp;have KX:K.In s.heap:=e0.mod.kin.keeps λb o e=>(e0.bs b o e).1
 have lim:s.heap.NoLimit:=e0.mod.nolimit.keeps λb o e=>(e0.bs b o e).1
 have hkind:∀y∈ps.zip us,(aK st).names.lookup y.1=some .local\/((aK st).names.lookup y.1=some .cell/\((cellsFrom (s.heap.objs.size+1) (aK st).names []).lookup y.1).isSome=true):=λ⟨n,v⟩ hy=>by
  rcases S.par n (oE hy).1 with q|q
  ·exact .inl q
  ·exact .inr ⟨q,nC _ _ _<|.inl q⟩
 refine codeAny_call_function (show A.depth<recursionLimit from hr.depth) (KX _ _ lk) rfl S.co S.gen rfl (aCD KX hcd)<|hb _ _ _ _ ?_;refine wpAny_newFunctionEnv_cells S.kind hkind λenv he s1 x=> ?_
 subst he;refine⟨lim.keeps x.toInCall.keep,codeAny_func ?_⟩;have hds:ds.length=ps.length:=by rw[<-rl.len];exact hl
 have key:∃t,PSs (cxU P w K mg base N qual (aK st) f cdv A outer s H E).nox (cM st) t/\t {nx:=λ_ H'=>Q .non H',rt:=Q} (L2.start N vs) H:=by
  refine⟨_,pss_w, ?_⟩;have hlen:N.length-vs.length=N.length-ds.length:=by rw[rl.len]
  have S0:StF K H H H (L2.start N vs) (init N.length ds):=by
   refine⟨Same.refl _,Same.refl _,sm, ?_, ?_⟩
   ·unfold L2.start init;rw[hlen];exact gT (m:=0) rl
   ·unfold init;rw[hX];exact cI
  refine(body cdv A outer s H E (hr.deeper _) ds rr hds c (L2.start N vs) H H S0).imp ?_ ?_ (λ_ _ ⟨_,_,_,_,z⟩=>z) λ_ _ ⟨_,_,_,_,z⟩=>z
  ·rintro σ' H' ⟨sd',F',S',s',e⟩;have e:rr=.val .non:=e;subst e;exact q .non H' ⟨F',S'.base,S'.sub,S'.smp,by simp only[ResOk,Rep]⟩
  ·rintro v H' ⟨r',ro,e⟩;have e:r'=rr:=e;subst e;exact q v H' ro
 obtain⟨t,ht,hq⟩:=key;have I:Inv (cxU P w K mg base N qual (aK st) f cdv A outer s H E) [] (L2.start N vs) H s1:=aCi S e0 hl r x;refine AX (ht.nox [] s1 (L2.start N vs) H _ I hq) (λfl s' hs=> ?_) λe s' hs=>hs
 have fin:∀ {σ':St}{H':Hp}{v:V}{u:BD},Inv (cxU P w K mg base N qual (aK st) f cdv A outer s H E) [] σ' H' s'->RelV v u->Q v H'->CE outer P w H s Q u s':=
  λ{σ' H' v u} J rv q=>⟨v,H',J.os,J.bare,J.base,J.hok,rv,q⟩
 cases fl with
 |ret u=>obtain⟨v,σ',H',J,rv,q⟩:=hs;exact fin J rv q
 |next=>obtain⟨σ',H',J,q⟩:=hs;exact fin (v:=V.non) (u:=Value.none) J rfl q
 |brk=>obtain⟨_,_,_,q⟩:=hs;exact False.elim q
 |cont=>obtain⟨_,_,_,q⟩:=hs;exact False.elim q
structure pZ(P:AE)(w:AL)(K:aA)(mg:Str->Option BD)(base:BH)(x:Str)(k n:Nat)(C:List D->R->Prop):Prop where
 ex:∃ (f:BF) (fd:AN) (ps:List Str),mg x=some (.ref f)/\cG K (.ref f)=true/\Binds K fd ps []/\FnU P w K mg base k f fd ps (spC K n C)
theorem aKI{C:List D->R->Prop}(F:Fun K x qual st f fd)(S:fK N ps (aK st))
  (hm:mg x=some (.ref f)) (hb:∀ (kV doc pm:BD) (an:Option BF) (cdv ct:BD) (us:List BD),us.length=ps.length->bindArgs (bY x qual (dW st) (cM st) (aK st) .none kV doc pm an cdv ct) ⟨us,[]⟩=pure (ps.zip us))
  (body:∀ (cdv:BD) (A:BG) (outer:List Env) (s:BE) (H:Hp) (E:XK),Room k (({A with handled:=none}:BG).deeper (Ag qual (aK st) s.heap.objs.size f cdv))→∀ds r,ds.length=ps.length→C ds r→
   PSd (cxU P w K mg base N qual (aK st) f cdv A outer s H E).nox (init N.length ds) (cM st) {nx:=λ_=>r=.val .non,rt:=λr'=>r'=r}):pZ P w K mg base x (k+1) ps.length C:=
 ⟨f,fd,ps,hm,F.kp,F.binds hb,aJz F S body⟩
theorem vK{C:List D->R->Prop}{rs:List R}{y:V}(G:pZ X.prog X.w X.K X.mg X.base x k n C)(hr:Room k {X.A with handled:=none})(hg:Gl X x)(ha:PAd X sd (e::es) rs)(hk:∀r∈rs,r.keeps)(hc:C (rs.map R.toD) (.val d))(hd:flt d=some y)(hn:rs.length=n)
  (hdb:(x==("__debug__":Str))=false:=by decide) (he:AB (e::es) X.env=(false,eval e X.env)::AB es X.env:=by rfl) (hpl:(Aa pos<|AB es X.env).any (·.1)=false:=by rfl):
  PEd X sd (.Call (.Name x p) (e::es) [] pos) (.val d):=.mk λσ F H S=>by
 obtain⟨f,fd,ps,hm,hkp,bd,G⟩:=G.ex
 have pe:PE X (.Call (.Name x p) (e::es) [] pos) (aLD (spC X.K n C) [] E0<|wA X (e::es)):=by
  intro pins s σ H Q I h;refine AR<|kN I hg hm ?_ hdb;refine eE (h₀:=X.base) I.ok.mod.kin hkp (thn (qT pos pins s σ H _ I h) λus s1 ⟨vs,H1,I1,r,q⟩=>⟨I1.kIn, ?_⟩) he hpl;have hl:(us++[]).length=ps.length:=by rw[bG,<-r.length,<-bG vs];exact G.len _ _ _ _ q
  refine wpAny_call<|Aj (G.run X.A X.stack s1 H1 ⟨us,[]⟩ (us++[]) (vs++[]) Q E0 hr I1.env0 (bd s1 us I1.kIn hl) (r.append .nil) q) λr s' hq=> ?_;cases r with
  |error e=>exact hq.elim
  |ok fl=>
   cases fl with
   |ret u=>exact I1.after hq
   |next=>exact False.elim hq
   |brk=>exact False.elim hq
   |cont=>exact False.elim hq
 refine pe.to<|(ha σ F H S).imp λvs H1 ⟨F1,S1,s1,q1⟩=> ?_;have rl:=RsOk.toD S1 hk q1;refine⟨by rw[bG,rl.len,aC];exact hn,S1.smp,_,.val d,by rw[bG];exact rl,hc,λv H' ⟨F2,s2,s3,sm,res⟩=> ?_⟩;have e:=lM hd res;subst e;exact⟨F1,⟨S1.base,(S1.sub.trans s2).trans s3,sm,S1.slots.mono (Same.refl _) λl hl=>⟨(S1.slots.owns hl).1,λys e=>s3 _ _<|s2 _ _ e⟩,S1.nd⟩,s1,aKO hd⟩
theorem aCV:∀r∈[R.val d],r.keeps:=λr h=>by rw[aH.mp h];exact True.intro
noncomputable def aFF(row:List Nat)(a b:Int):Bool:=decide (0<=a)&&(decide (1<=b)&&decide (a+b<=(row.length:Int)))
theorem aMg{pl mn:Nat}(w1:1<=mn)(w2:pl+mn<=row.length):aFF row (pl:Int) (mn:Int)=true:=by unfold aFF;rw[decide_eq_true (show(0:Int)<=(pl:Int) by omega),decide_eq_true (show(1:Int)<=(mn:Int) by omega),decide_eq_true (show(pl:Int)+(mn:Int)<=(row.length:Int) by omega)];rfl
def aFS:List D->R->Prop:=λds r=>∃ (row:List Nat) (a b:Int),ds=[.tup<|bT row,.int a,.int b]/\r=.val (.bl<|aFF row a b)
def pO:List D->Prop:=λds=>∃ (p:Int×Int) (L:List SK) (row:List Nat) (a b:Int) (dl:D),ds=[cJ p,.lst<|L.map skD,.tup<|bT row,.int a,.int b,dl]/\aFF row a b=false
def aNO{α:Type}:α->List D->Prop:=λ_ ds=>∃ (row:List Nat) (a b:Int) (dl:D),ds=[.tup<|bT row,.int a,.int b,dl]/\aFF row a b=false
theorem aEg:Ai "ValueError"=some (.type "ValueError"):=by boot_by_name
structure Xw8(K:aA)(mg:Str->Option BD)(CN:BF):Prop where
 ex:iT K CN aNJ "ValueError.__new__"=true
 nw:mg "NoWindow"=some (.ref CN)/\True
structure Xc8(K:aA)(C CL CC CT CI CG CW:BF)(g w:Bool):Prop where
 xc:aLw K C
 le:jL K (.ref C) (.ref CL)=some true
 ve:cH K (.ref C) (.type "ValueError")=some true
 nc:cH K (.ref C) (.ref CC)=some false
 nt:cH K (.ref C) (.ref CT)=some false
 ns:cH K (.ref C) (.ref CI)=some false
 tg:cH K (.ref C) (.ref CG)=some g
 nw:cH K (.ref C) (.ref CW)=some w
structure aNN(K:aA)(mg:Str->Option BD)(CG CW CL CC CT CI:BF):Prop where
 le:mg "LeastError"=some (.ref CL)
 nc:mg "NoChange"=some (.ref CC)
 nt:mg "NoText"=some (.ref CT)
 ns:mg "NoWish"=some (.ref CI)
 tg:mg "TooGreat"=some (.ref CG)
 nw:mg "NoWindow"=some (.ref CW)
 ve:mg "ValueError"=none
 g:Xc8 K CG CL CC CT CI CG CW true false
 w:Xc8 K CW CL CC CT CI CG CW false true
def aOj(CG CW:BF):List D->R->Prop:=λds r=>∃b:Bool,ds=[vB (.ref<|cond b CG CW)]/\r=.val (.str<|cond b "great" "window")
noncomputable def w2D(c:Int×Int):D:=.tup [.int c.1,.int c.2]
def aLz:List D->R->Prop:=λds r=>∃ (p:Int×Int) (L:List SK) (row:List Nat) (c:Int×Int) (o:Option (List Nat)) (x:Str),((∃pl mn:Nat,c=((pl:Int),(mn:Int))/\aLd p L row pl mn o/\x="none")\/(∃pl mn:Nat,c=((pl:Int),(mn:Int))/\PcX p L row pl mn o/\x="great")\/(aFF row c.1 c.2=false/\x="window"))/\ds=[cJ p,.lst<|L.map skD,.tup<|bT row,w2D c,lkD o]/\r=.val (.str x)
def aLR:List D->R->Prop:=λds r=>∃ (p:Int×Int) (L:List SK) (b:Int),p∈bW/\StkOk p L/\(L.map λs=>sqD s.1).Nodup/\b<=300/\ds=[cJ p,.lst<|L.map skD,.int b]/\r=.val (.str (if 500<(bkF p L b).length then "great" else "none"))
def aHI:List D->R->Prop:=λds r=>∃ns p,p∈bW/\ds=[.scr ns,cJ p]/\r=.own ((ktN p ns 4 1 8).map skD)
noncomputable def aLo(c:Int):Int×Int:=[(2,2),(1,4),(4,1),(2,2)].getD (c%4).toNat (2,2)
theorem aKh(c:Int):aLo c∈bW/\([cJ (2,2),cJ (1,4),cJ (4,1),cJ (2,2)]:List D)[(c%4).toNat]? =some (cJ<|aLo c):=by
 have h:(c%4).toNat<4:=by omega
 unfold aLo;generalize (c%4).toNat=i at h
 match i,h with
 |0,_=>exact⟨by decide,rfl⟩
 |1,_=>exact⟨by decide,rfl⟩
 |2,_=>exact⟨by decide,rfl⟩
 |3,_=>exact⟨by decide,rfl⟩
theorem aIw(p:Int×Int)(ns:List Int)(st:Nat)(d:Int):∀t,((ktN p ns st d t).map λs=>sqD s.1).Nodup
 |0=>cI
 |t+1=>by
  have ih:=aIw p ns st d t;unfold ktN
  split
  ·exact ih
  ·rename_i h;rw[bK];refine bE.mpr ⟨ih,by simp,λx hx y hy z=>h ?_⟩;have ey:y=sqD (sK p (lX (ns.getD (st+t) 0)<|t+1)):=by simpa using hy
   obtain⟨s,hs,rfl⟩:=aQ.mp hx;refine jX.mpr ⟨sqD s.1,aQ.mpr ⟨skD s,aQ.mpr ⟨s,hs,rfl⟩,rfl⟩, ?_⟩;rw[<-ey,<-z];exact uJ _ (aIX _).1
theorem aCP(p:Int×Int)(ns:List Int)(st:Nat):∀t,∀s∈ktN p ns st 1 t,s.2=1
 |0,s,h=>by cases h
 |t+1,s,h=>by
  unfold ktN at h
  split at h
  ·exact aCP p ns st t s h
  ·rcases aU.mp h with h|h
   ·exact aCP p ns st t s h
   ·rw[aH.mp h];show(1:Int)+_%1=1;rw[Int.emod_one];rfl
theorem aDh{L:List SK}(h1:∀s∈L,s.2=1):∀ {row:List Nat},gC L row->S45.prQ (prK L) row=(row.length:Int)
 |[],_=>rfl
 |k::r,h=>by
  have ih:=aDh h1 (row:=r) λi hi=>h i<|aE _ hi
  have e1:=h1 _<|getD_mem (d:=(AQ:SK)) (h k<|aG ..);have e:S45.prQ (prK L) (k::r)=(L.getD k AQ).2+S45.prQ (prK L) r:=by unfold S45.prQ;rw[aW,aBI];rfl
  rw[e,bD];omega
theorem aHQ{pl mn:Nat}(h1:∀s∈L,s.2=1)(hr:gC L row)(hw:pl+mn<=row.length):pwQ L row pl mn=(mn:Int)-1:=by
 have ok:gC L ((row.drop pl).take mn):=λt ht=>hr t (dP<|dQ ht)
 have hl:((row.drop pl).take mn).length=mn:=by rw[dH,fM];omega
 unfold pwQ;rw[aHF,aDh h1 ok,hl]
theorem aKk{p:Int×Int}(S:StkOk p L)(h1:∀s∈L,s.2=1):¬ 500<(bkF p L 0).length:=by
 have F:aPm L 0 [[]]:=⟨by decide,fun row hr h=>by
  rw[aDh h1 hr] at h;cases row with
  |nil=>exact aH.mpr rfl
  |cons x y=>rw[bD] at h;omega⟩
 have:=(aJQ (p:=p) (λk hk=>(S.st _<|getD_mem (d:=(AQ:SK)) hk).2.1) F S.le<|by decide).le;omega
noncomputable def aID(ns:List Int)(n:Nat):List Nat:=(bR 8).map λk=>(lX (ns.getD (12+k) 0) k%(n:Int)).toNat
theorem aKP(ns:List Int)(h:0<n):(∀t∈aID ns n,t<n)/\(aID ns n).length=8:=by refine⟨λt ht=> ?_,by simp[aID]⟩;obtain⟨k,_,rfl⟩:=aQ.mp ht;have h1:=cZ (lX (ns.getD (12+k) 0) k) (show(n:Int)≠0 by omega);have h2:=cS (lX (ns.getD (12+k) 0) k) (show(0:Int)<(n:Int) by omega);omega
theorem aLr{us:List α}(h:us.length=n+1):∃a r,us=a::r/\r.length=n:=by
 cases us with
 |nil=>cases h
 |cons a r=>exact⟨a,r,rfl,Nat.succ.inj h⟩
theorem aOa{us:List α}(h:us.length=1):∃a,us=[a]:=by obtain⟨a,r,rfl,h2⟩:=aLr h;exact⟨a,by rw[gI h2]⟩
theorem aNY{us:List α}(h:us.length=2):∃a b,us=[a,b]:=by obtain⟨a,r,rfl,h2⟩:=aLr h;obtain⟨b,rfl⟩:=aOa h2;exact⟨a,b,rfl⟩
theorem aOi{us:List α}(h:us.length=3):∃a b c,us=[a,b,c]:=by obtain⟨a,r,rfl,h2⟩:=aLr h;obtain⟨b,c,rfl⟩:=aNY h2;exact⟨a,b,c,rfl⟩
theorem aOb{us:List α}(h:us.length=4):∃a b c d,us=[a,b,c,d]:=by obtain⟨a,r,rfl,h2⟩:=aLr h;obtain⟨b,c,d,rfl⟩:=aOi h2;exact⟨a,b,c,d,rfl⟩
theorem aPt{us:List α}(h:us.length=5):∃a b c d e,us=[a,b,c,d,e]:=by obtain⟨a,r,rfl,h2⟩:=aLr h;obtain⟨b,c,d,e,rfl⟩:=aOb h2;exact⟨a,b,c,d,e,rfl⟩
theorem pdv(i:Nat)(hs:sd[i]? =some (.val d):=by rfl)(h:PE X (.Name x pos) (iI i):=by exact pv _):PEd X sd (.Name x pos) (.val d):=aDi i hs h
theorem lE(i:Nat)(h:PEd X sd e (.val d))(hE:E.nx (sd.set i<|.val d))(hN:X.N.Nodup:=by assumption)(hi:X.N[i]? =some x:=by rfl)(hx:Loc X.env.scope x:=by first|exact Or.inl rfl|exact Or.inr rfl)(hs:AY e (some<|.Name x p) pos.line X.env=pure false:=by rfl)
  (hf:X.fn x=true\/X.env.scope.names.lookup x=some .local:=by first|exact .inl rfl|exact .inr rfl|assumption):PSd1 X sd (.Assign [.Name x p] e pos) E:=iD i hN hi hx h hE hs hf
theorem qL(i:Nat)(h:PEd X sd e (.own ds))(hE:∀l,E.nx (sd.set i<|.own l ds))(hN:X.N.Nodup:=by assumption)(hi:X.N[i]? =some x:=by rfl)(hx:Loc X.env.scope x:=by first|exact Or.inl rfl|exact Or.inr rfl)(hs:AY e (some<|.Name x p) pos.line X.env=pure false:=by rfl)
  (hf:X.fn x=true\/X.env.scope.names.lookup x=some .local:=by first|exact .inl rfl|exact .inr rfl|assumption):PSd1 X sd (.Assign [.Name x p] e pos) E:=wQ i hN hi hx h hE hs hf
theorem pgn(i:Nat)(hN:X.N.Nodup:=by assumption)(hi:X.N[i]? =some x:=by rfl)(hx:Loc X.env.scope x:=by first|exact Or.inl rfl|exact Or.inr rfl)(hf:X.fn x=true\/X.env.scope.names.lookup x=some .local:=by first|exact .inl rfl|exact .inr rfl|assumption):PG X (.Name x pos) (aCJ i):=qI hN hi hx hf
noncomputable abbrev tN(l:List Nat):D:=.tup<|bT l
noncomputable abbrev lK(L:List SK):D:=.lst<|L.map skD
noncomputable abbrev tL(l:List (List Int)):D:=.lst<|l.map bP
noncomputable abbrev s4(p:Int×Int)(L:List SK)(row:List Nat)(o:Option (List Nat))(r:List Slot):List Slot:=.val (cJ p)::.val (lK L)::.val (tN row)::.val (lkD o)::r
noncomputable abbrev a4(p:Int×Int)(L:List SK)(row:List Nat)(o:Option (List Nat)):List D:=[cJ p,lK L,tN row,lkD o]
noncomputable abbrev a5(p:Int×Int)(L:List SK)(row:List Nat)(o:Option (List Nat))(w:Nat):List D:=[cJ p,lK L,tN row,lkD o,.int (w:Int)]
noncomputable abbrev rtE(r:R):hW:={nx:=λ_=>r=.val .non,rt:=λr'=>r'=r}
theorem uN(r:Room k A)(n:Nat)(h:n<=8:=by decide):A.units+n<AS:=by have:=r.un;omega
noncomputable def NB:R->Prop
 |.bor _=>False
 |_=>True
theorem iQ(h:PEd X sd e r)(hE:E.rt r:=by rfl)(hr:NB r:=by trivial):PSd1 X sd (.Return (some e) pos) E:=eJ h (by cases r<;>first|trivial|exact hr) hE
theorem aKX{x:List BJ}(h:PTd X sd c false)(k:PSd X sd rest E):PSd X sd (.If c x [] pos::rest) E:=aO (qA h rfl<|eB k)
theorem pdc{C:List D->R->Prop}(G:bF X.prog X.w X.K X.mg X.base x k n C){j:Nat}(hr:Room j X.A)(ha:PAd X sd (e::es) (ds.map R.val))(hc:C ds r)(hj:k<=j:=by decide)(hg:Gl X x:=by rfl)(hb:NB r:=by trivial)(hn:ds.length=n:=by rfl)
  (hdb:(x==("__debug__":Str))=false:=by decide) (he:AB (e::es) X.env=(false,eval e X.env)::AB es X.env:=by rfl) (hpl:(Aa pos<|AB es X.env).any (·.1)=false:=by rfl):
  PEd X sd (.Call (.Name x p) (e::es) [] pos) r:=aJE G (hr.mono hj) hg ha hc (by cases r<;>first|trivial|exact hb) hn hdb he hpl
theorem pdx{a:Expr}{j:Nat}{p1:Pos}(ha:PEd X sd a (.val<|.tup ds))(hd:ds[n]? =some d:=by rfl):PEd X sd (.Subscript a (.Constant (.int (n:Int)) j p1) pos) (.val d):=vJ ha cE hd λ_ _=>rfl
theorem pdT{x1}(h:PAd X sd es (ds.map R.val))(hl:ds.length<=10000:=by exact hZ rfl):PEd X sd (.Tuple es x1 pos) (.val<|.tup ds):=aHG h hl
theorem pdL(h:PAd X sd es (ds.map R.val))(hl:ds.length<=10000:=by exact hZ rfl):PEd X sd (.List es pos) (.own ds):=aAL h hl
theorem pgN(i:Nat)(hN:X.N.Nodup:=by assumption)(hi:X.N[i]? =some x:=by rfl)(hx:Loc X.env.scope x:=by first|exact Or.inl rfl|exact Or.inr rfl)(hf:X.fn x=true\/X.env.scope.names.lookup x=some .local:=by first|exact .inl rfl|exact .inr rfl|assumption):PGd X sd (.Name x pos) d (sd.set i<|.val d):=aAW i<|qI hN hi hx hf
theorem pdC{elt:Expr}{ifs:List Expr}{scope:Scope}{M:List Str}{cap:List (Option Nat)}{sc:Scope}{Tb:D->List Slot}(p:D->Bool)(f:D->D)
  (hi:PId X (unO sd) PT0 tg iter ds) (hl:ds.length<=10000)
  (ht:∀cl C fp s H d,d∈ds->(ifs=[]/\p d=true)\/∃c,ifs=[c]/\PTd (cxB X N scope cl C fp s H) (Tb d) c (p d))
  (he:∀cl C fp s H d,d∈ds->p d=true->PEd (cxB X N scope cl C fp s H) (Tb d) elt (.val<|f d))
  (hg:∀cl C fp s H d,d∈ds->PGd (cxB X N scope cl C fp s H) (pI cap sd) tg d (Tb d):=by exact λ_ _ _ _ _ _ _=>pgN 0)
  (hle:∀d,d∈ds->Le (Tb d) (pI cap sd):=by intro _ _;repeat' (first|exact trivial|refine⟨.inr rfl, ?_⟩|refine⟨.inl rfl, ?_⟩))
  (hsc:X.env.scope=sc:=by rfl) (hcn:oY scope sc=true:=by decide+kernel) (hM:X.N=M:=by rfl) (hcap:mE N M scope sc cap=true:=by decide+kernel) (hk:scope.kind=.function:=by rfl)
  (hc:X.calm=true:=by rfl) (hs:∀x,Ay iter X.env x=pure x:=by intro _;rfl):
  PEd X sd (.ListComp elt [⟨tg,iter,ifs,0⟩] scope pos) (.own<|(ds.filter p).map f):=kJ p f hi hl hsc hcn hM hcap hk hg hle ht he hc hs
theorem dC{C:List D->R->Prop}(F:FI K mg x st)
  (body:∀ (f:BF),N.Nodup→∀ (cdv:BD) (A:BG) (outer:List Env) (s:BE) (H:Hp) (E:XK),Room k (A.deeper (Ag x (aK st) s.heap.objs.size f cdv))→∀ds r,ds.length=ps.length→C ds r→
   PSd (jB CX0 P w K mg base N x (aK st) f cdv A outer s H E).nox (init N.length ds) (cM st) {nx:=λ_=>r=.val .non,rt:=λr'=>r'=r})
  (nd:N.Nodup:=by decide+kernel) (S:N.Nodup->fK N ps (aK st):=by exact λnd=>⟨rfl,rfl,rfl,nd,rfl,by decide+kernel,by decide+kernel⟩)
  (hb:∀ (kV doc pm:BD) (an:Option BF) (cdv ct:BD) (us:List BD),us.length=ps.length→bindArgs (bY x x (dW st) (cM st) (aK st) .none kV doc pm an cdv ct) ⟨us,[]⟩=pure (ps.zip us):=by
   intro _ _ _ _ _ _ _ h
   first
   |(obtain⟨_,rfl⟩:=aOa h;rfl)
   |(obtain⟨_,_,rfl⟩:=aNY h;rfl)
   |(obtain⟨_,_,_,rfl⟩:=aOi h;rfl)
   |(obtain⟨_,_,_,_,rfl⟩:=aOb h;rfl)
   |(obtain⟨_,_,_,_,_,rfl⟩:=aPt h;rfl)
   |(obtain⟨_,_,_,_,_,_,rfl⟩:=len6 h;rfl)):bF P w K mg base x (k+1) ps.length C:=by
 obtain⟨f,fd,hm,F⟩:=F;exact aMo F (S nd) hm hb<|body f nd
def FID(K:aA)(mg:Str->Option BD)(n:Str)(st:BJ):Prop:=∃f fd,mg n=some (.ref f)/\aHw #[.none] K n n st f fd
theorem FID.mk{h:BH}{n:Str}{od an td:Option BF}{sl ts:Array (Option BD)}{oc kV dc pm cd ct tc:BD}{T:BF}{m:Nat}(X:K.In h)(G:h.Ns AO mg)(a:eM K AO n=some (some<|.ref f))(l:K.lookup f=some ⟨oc,od,.func<|bY n n (dW st) (cM st) (aK st) (.ref T) kV dc pm an cd ct,sl⟩)(c:eL K cd n=true)(k:cG K (.ref f)=true)(t:K.lookup T=some ⟨tc,td,.seq #[.none] m,ts⟩):FID K mg n st:=⟨f,_,dN X G a,aJn (st:=st) l c k t⟩
theorem aBg{C:List D->Prop}(F:FI K mg x st)
  (body:∀ (f:BF),N.Nodup→∀ (cdv:BD) (A:BG) (outer:List Env) (s:BE) (H:Hp) (E:XK),Room k (A.deeper (Ag x (aK st) s.heap.objs.size f cdv))→(∀a H',Same H H'→Smp H'→E (.ref a) (some a) H')→∀ds,ds.length=ps.length→C ds→
   PSd (jB (CX1 P w cls) P w K mg base N x (aK st) f cdv A outer s H E) (init N.length ds) (cM st) {nx:=λ_=>False,rt:=λ_=>False})
  (nd:N.Nodup:=by decide+kernel) (S:N.Nodup->fK N ps (aK st):=by exact λnd=>⟨rfl,rfl,rfl,nd,rfl,by decide+kernel,by decide+kernel⟩)
  (hb:∀ (kV doc pm:BD) (an:Option BF) (cdv ct:BD) (us:List BD),us.length=ps.length→bindArgs (bY x x (dW st) (cM st) (aK st) .none kV doc pm an cdv ct) ⟨us,[]⟩=pure (ps.zip us):=by
   intro _ _ _ _ _ _ _ h
   first
   |(obtain⟨_,rfl⟩:=aOa h;rfl)
   |(obtain⟨_,_,rfl⟩:=aNY h;rfl)
   |(obtain⟨_,_,_,rfl⟩:=aOi h;rfl)
   |(obtain⟨_,_,_,_,rfl⟩:=aOb h;rfl)
   |(obtain⟨_,_,_,_,_,rfl⟩:=aPt h;rfl)
   |(obtain⟨_,_,_,_,_,_,rfl⟩:=len6 h;rfl)):eW P w K mg base x (k+1) ps.length C cls [] []:=by
 obtain⟨f,fd,hm,F⟩:=F;exact aKc F (S nd) hm hb<|body f nd
end DL
set_option maxHeartbeats 400000
namespace K78
open PySem PySem.Spec PyProof.Rows L2 DL
noncomputable def top(i:Nat):BJ:=PySem.Challenge.pw_leastrow_k78_windows_too_great.main.body.getD i<|.Pass ⟨0,0,0,0⟩
noncomputable abbrev aIb:BJ:=top 8
noncomputable abbrev aCH:BJ:=top 9
noncomputable abbrev aLK:BJ:=top 10
noncomputable abbrev aPd:BJ:=top 11
noncomputable abbrev aEo:BJ:=top 14
noncomputable abbrev aBB:BJ:=top 15
noncomputable abbrev aBo:BJ:=top 16
noncomputable abbrev aBk:BJ:=top 18
noncomputable abbrev aEm:BJ:=top 17
noncomputable abbrev aOn:BJ:=top 21
noncomputable abbrev aDo:BJ:=top 22
noncomputable abbrev aIW:BJ:=top 23
noncomputable abbrev aPs:BJ:=top 24
noncomputable abbrev sFd:BJ:=top 25
noncomputable abbrev aCN:BJ:=top 26
noncomputable abbrev aIR:BJ:=top 27
noncomputable abbrev aHZ:BJ:=top 30
noncomputable abbrev aDa:BJ:=top 32
noncomputable abbrev aHL:BJ:=top 33
noncomputable abbrev tZ:BJ:=top 34
noncomputable abbrev aHT:BJ:=top 43
noncomputable abbrev aDs:BJ:=top 45
noncomputable abbrev aPA:BJ:=top 46
noncomputable abbrev aLt:BJ:=top 47
noncomputable abbrev aMa:BJ:=top 36
noncomputable abbrev aLG:BJ:=top 37
noncomputable abbrev sFt:BJ:=top 39
noncomputable abbrev aDk:BJ:=top 29
noncomputable abbrev aAV:BJ:=top 44
noncomputable abbrev vY:BJ:=top 48
noncomputable abbrev aFL:BJ:=top 49
noncomputable abbrev aDv:BJ:=top 51
noncomputable abbrev aHN:BJ:=top 52
noncomputable abbrev aDA:BJ:=top 53
noncomputable abbrev aAm:BJ:=top 54
noncomputable abbrev qJ:BJ:=top 55
noncomputable abbrev aIs:BJ:=top 57
noncomputable abbrev aPe:BJ:=top 56
noncomputable abbrev aLy:BJ:=top 58
noncomputable abbrev xF:BJ:=top 59
noncomputable abbrev aKY:BJ:=aEj (top 41) 0
noncomputable abbrev aIF:BJ:=aEj (top 41) 1
section
variable {P:AE}{w:AL}{K:aA}{mg:Str->Option BD}{base:BH}{f:BF}{fd:AN}
theorem u_of{u d n c:Nat}(h:u+n<c)(hd:d+1<=n):u+d+1<c:=by omega
theorem aLU(q:SQ):pl (sqD q)=true:=by
 show pl (kB _ _ _ _)=true;unfold kB
 split
 ·rfl
 ·split<;>rfl
theorem aNs(q:SQ):dep (sqD q)=1:=by
 show dep (kB _ _ _ _)=1;unfold kB
 split
 ·rfl
 ·split<;>rfl
theorem aAk{α:Type}(g:α->D)(h:∀a,pl (g a)=true):∀l:List α,plL (l.map g)=true
 |[]=>rfl
 |a::l=>by show(pl (g a)&&plL (l.map g))=true;rw[h a,aAk g h l];rfl
theorem uY{α:Type}(g:α->D)(n:Nat)(h:∀a,dep (g a)<=n):∀l:List α,lA (l.map g)<=n
 |[]=>cQ _
 |a::l=>Nat.max_le.mpr ⟨h a,uY g n h l⟩
noncomputable def twoT:D->List Slot->List Slot
 |.tup [x,y],r=>.val x::.val y::r
 |_,r=>.un::.un::r
def aAN:List D->R->Prop:=λds r=>∃p:Int×Int,ds=[cJ p]/\0<=p.1/\p.1<=60/\r=.val (.int<|2^p.1.toNat)
theorem aGo(F:FI K mg "word_count" aIb)(zrange:mg "range"=none):bF P w K mg base "word_count" 1 1 aAN:=by
 refine dC (N:=["size","count","bit"]) (ps:=["size"]) (k:=0) F λf nd cdv A outer s H E hr ds r hl c=> ?_
 obtain⟨p,rfl,h0,h1,rfl⟩:=c;have ep:p.1=((p.1.toNat:Nat):Int):=by omega
 refine aO<|iD 1 nd rfl (Or.inl rfl) cE ?_;refine aO<|qO (ds:=gX 0 p.1.toNat) (λk=>[.val<|cJ p,.val (.int<|2^k),.un]) (λk=>[.val<|cJ p,.val (.int<|2^k),.val (.int<|0+(k:Int))]) (kR (n:=p.1.toNat) rfl zrange (PEd.cast (pdx (n:=0) (d:=.int p.1)<|pdv 0)<|by rw[<-ep])<|by omega) ⟨.inr rfl,.inr rfl,.inr rfl,trivial⟩ (λi d hd=> ?_) (λi d hd=> ?_) ?_
 ·obtain⟨_,rfl⟩:=lC hd;exact pgN 2
 ·refine aX<|iD 1 nd rfl (Or.inl rfl) (dR lN (pdv 1) cE (aIP (by decide)<|by decide)) ?_;exact⟨.inr rfl,.inr rfl,.inl rfl,trivial⟩
 ·refine aX<|eJ (pdv 1) trivial ?_;rw[gZ]
def aMe:List D->R->Prop:=λds r=>∃ (L:List (List Int)) (m:Nat),ds=[.lst<|L.map bP,.int (m:Int)]/\L.length*m<=900/\m<=64/\(∀s∈L,s.length<=100)/\r=.own ((L.flatMap λs=>(bR m).map λ(w:Nat)=>s++[(w:Int)]).map bP)
abbrev nl0:List Str:=["starts","count","longer","start"]
theorem aKR(F:FI K mg "with_each_word" aCH)(zrange:mg "range"=none):bF P w K mg base "with_each_word" 1 2 aMe:=by
 refine dC (N:=nl0) (ps:=["starts","count"]) (k:=0) F λf nd cdv A outer s H E hr ds r hl c=> ?_
 obtain⟨L,m,rfl,hL,hm64,hs,rfl⟩:=c;have nd2:(["word","start"]:List Str).Nodup:=by decide+kernel
 refine aO<|wQ 2 nd rfl (Or.inl rfl) (aAL (ds:=[]) aM<|cQ _) λl=> ?_;refine aO<|qO (ds:=L.map bP) (λk=>[.val<|tL L,.val<|.int (m:Int),.own l<|((L.take k).flatMap λs=>(bR m).map λ(w:Nat)=>s++[(w:Int)]).map bP,.un]) (λk=>[.val<|tL L,.val<|.int (m:Int),.own l<|((L.take k).flatMap λs=>(bR m).map λ(w:Nat)=>s++[(w:Int)]).map bP,.val (bP<|L.getD k [])]) (jJ<|pdv 0) ⟨.inr rfl,.inr rfl,.inr rfl,.inr rfl,trivial⟩ (λk d hd=> ?_) (λk d hd=> ?_) ?_
 ·obtain⟨_,rfl⟩:=oC hd;exact pgN 3
 ·obtain⟨hk,rfl⟩:=oC hd;have hmem:L.getD k []∈L:=getD_mem hk
  have et:L.take (k+1)=L.take k++[L.getD k []]:=by rw[eP];simp[cK,hk]
  have lk:(L.take k).length*m+m<=900:=by
   have h1:(L.take k).length+1<=L.length:=by rw[dH];omega
   have h2:=aFD m h1;rw[aPE] at h2;omega
  have comp:∀ {pos:Pos},PEd (jB CX0 P w K mg base nl0 "with_each_word" (aK aCH) f cdv A outer s H E).nox [.val<|tL L,.val<|.int (m:Int),.own l<|((L.take k).flatMap λs=>(bR m).map λ(w:Nat)=>s++[(w:Int)]).map bP,.val (bP<|L.getD k [])] (match(cM aCH).getD 1 (.Pass ⟨0,0,0,0⟩) with | .For _ _ [.Expr (.Call _ [c] _ _) _] _ _=>c|_=> .Constant .none 0 ⟨0,0,0,0⟩) (.own (((gX 0 m).filter λ_=>true).map λd=>D.tup<|(L.getD k []).map D.int++[d])):=λ{pos}=>by
   refine pdC (N:=["word","start"]) (M:=nl0) (cap:=[none,some 3]) (sc:=aK aCH) (Tb:=λd=>[.val d,.val (bP<|L.getD k [])]) (λ_=>true) (λd=>D.tup<|(L.getD k []).map D.int++[d]) (kR (n:=m) rfl zrange (pdv 1)<|by omega) (by rw[gZ];omega) (λcl C fp s H d _=>.inl ⟨rfl,rfl⟩) λcl C fp s H d _ _=> ?_
   refine tI (pdv 1) (pdT (ds:=[d])<|aB (pdv 0) aM) ?_;have:=hs _ hmem;simp only[aC,bD,fX];omega
  have ec:((gX 0 m).filter λ_=>true).map (λd=>D.tup<|(L.getD k []).map D.int++[d])=((bR m).map λ(w:Nat)=>L.getD k []++[(w:Int)]).map bP:=by
   rw[cV.mpr λ_ _=>rfl];unfold gX;rw[aV,aV];refine cF λw _=> ?_
   simp[bP]
  refine aX<|aBS 2 rfl (pv 2) (PEd.val<|comp (pos:=⟨0,0,0,0⟩)) ?_ ?_
  ·rw[aC,sG,ec,aC,aC,fH];omega
  ·refine⟨.inr rfl,.inr rfl,.inr ?_,.inl rfl,trivial⟩;rw[et,ec,List.flatMap_append,bK];simp
 ·refine aX<|qK 2 rfl (pv 2) ?_;show R.own _=R.own _;rw[aC,gD]
def sD:List D->R->Prop:=λds r=>∃p,p∈bW/\ds=[cJ p]/\r=.own ((gO (2^p.1.toNat) p.2.toNat).map bP)
theorem aKv(F:FI K mg "fillings" aLK)(zrange:mg "range"=none)(GC:bF P w K mg base "word_count" 1 1 aAN)(GE:bF P w K mg base "with_each_word" 1 2 aMe):bF P w K mg base "fillings" 2 1 sD:=by
 refine dC (N:=["size","count","told","box"]) (ps:=["size"]) (k:=1) F λf nd cdv A outer s H E hr ds r hl c=> ?_
 obtain⟨p,hp,rfl,rfl⟩:=c;obtain⟨h1,h2,h3,h4,h5⟩:=vZ p hp;have e2:p.2=((p.2.toNat:Nat):Int):=by omega
 have m64:2^p.1.toNat<=64:=by
  have:p.1.toNat<=6:=by omega
  exact cD (pP (by decide) this)<|by decide
 have ec:(2:Int)^p.1.toNat=((2^p.1.toNat:Nat):Int):=by push_cast;rfl
 refine aO<|iD 1 nd rfl (Or.inl rfl) (pdc (ds:=[cJ p]) GC hr (aB (pdv 0) aM) ⟨p,rfl,by omega,by omega,rfl⟩) ?_;refine aO<|qL (ds:=[bP []]) 2 (pdL (ds:=[bP []])<|aB (aHG (ds:=[]) aM<|cQ _) aM) λl=> ?_;refine aO<|mJ (ds:=gX 0 p.2.toNat) (λk sd=>∃l,sd=[.val<|cJ p,.val (.int<|2^p.1.toNat),.own l<|(gO (2^p.1.toNat) k).map bP,.un]) (kR (n:=p.2.toNat) rfl zrange (PEd.cast (pdx (n:=1) (d:=.int p.2)<|pdv 0)<|by rw[<-e2])<|by omega) ⟨_,Le.refl _,l,rfl⟩ (λk d sdk hd hk=> ?_) λsdn hn=> ?_
 ·obtain⟨hk2,rfl⟩:=lC hd;obtain⟨l2,rfl⟩:=hk;refine⟨[.val<|cJ p,.val (.int<|2^p.1.toNat),.own l2<|(gO (2^p.1.toNat) k).map bP,.val (.int<|0+(k:Int))],pgN 3, ?_⟩;refine iB 2 rfl ?_;refine aX (wQ 2 nd rfl (Or.inl rfl) (pdc (ds:=[tL<|gO (2^p.1.toNat) k,.int ((2^p.1.toNat:Nat):Int)]) GE hr (aB (pdv 2)<|aB (PEd.cast (pdv 1)<|by rw[ec]) aM) ⟨gO (2^p.1.toNat) k,2^p.1.toNat,rfl, ?_,m64,λs hs=> ?_,rfl⟩) λl3=> ?_)
  ·rw[zU];exact aFa p hp k hk2
  ·rw[aBC _ _ s hs];omega
  ·exact⟨[.val<|cJ p,.val (.int<|2^p.1.toNat),.own l3<|(gO (2^p.1.toNat)<|k+1).map bP,.un],⟨.inr rfl,.inr rfl,.inr rfl,.inl rfl,trivial⟩,l3,rfl⟩
 ·rw[gZ] at hn;obtain⟨l2,rfl⟩:=hn;exact aX<|qK 2 rfl (pv 2) rfl
def aPf:List D->R->Prop:=λds r=>∃ (p:Int×Int) (ws:List Int),ds=[cJ p,bP ws]/\0<=p.1/\p.1<=60/\r=.val (.int<|sR (2^p.1.toNat) ws)
theorem aNa(F:FI K mg "number_of" aPd)(GC:bF P w K mg base "word_count" 1 1 aAN):bF P w K mg base "number_of" 2 2 aPf:=by
 refine dC (N:=["size","filling","count","number","word"]) (ps:=["size","filling"]) (k:=1) F λf nd cdv A outer s H E hr ds r hl c=> ?_
 obtain⟨p,ws,rfl,h0,h1,rfl⟩:=c
 have b1: -(2^64)<(2:Int)^p.1.toNat/\(2:Int)^p.1.toNat<2^64:=by
  have h3:p.1.toNat<=60:=by omega
  have h4:2^p.1.toNat<=2^60:=pP (by decide) h3;have h5:(2:Int)^p.1.toNat=((2^p.1.toNat:Nat):Int):=by push_cast;rfl
  rw[h5];have h6:(2:Nat)^60=1152921504606846976:=by decide
  rw[h6] at h4;generalize 2^p.1.toNat=q at h4 ⊢;omega
 refine aO<|iD 2 nd rfl (Or.inl rfl) (pdc (ds:=[cJ p]) GC hr (aB (pdv 0) aM) ⟨p,rfl,h0,h1,rfl⟩) ?_;refine aO<|iD 3 nd rfl (Or.inl rfl) cE ?_;refine aO<|qO (ds:=ws.map D.int) (λk=>[.val<|cJ p,.val<|bP ws,.val (.int<|2^p.1.toNat),.val<|.int (sR (2^p.1.toNat)<|ws.take k),.un]) (λk=>[.val<|cJ p,.val<|bP ws,.val (.int<|2^p.1.toNat),.val<|.int (sR (2^p.1.toNat)<|ws.take k),.val (.int<|ws.getD k 0)]) (oW<|pdv 1) ⟨.inr rfl,.inr rfl,.inr rfl,.inr rfl,.inr rfl,trivial⟩ (λk d hd=> ?_) (λk d hd=> ?_) ?_
 ·obtain⟨_,rfl⟩:=aAR hd;exact pgN 4
 ·obtain⟨hk,rfl⟩:=aAR hd
  have et:ws.take (k+1)=ws.take k++[ws.getD k 0]:=by rw[eP];simp[cK,hk]
  refine aX<|iD 3 nd rfl (Or.inl rfl) (fY iG (dR lN (pdv 3) (pdv 2)<|aIP b1.1 b1.2)<|pdv 4) ?_;refine⟨.inr rfl,.inr rfl,.inr rfl,.inr ?_,.inl rfl,trivial⟩;rw[et];unfold sR;rw[fG];rfl
 ·refine aX<|eJ (pdv 3) trivial ?_;show R.val _=R.val _;rw[aC,gD]
def aDU:List D->R->Prop:=λds r=>∃ (k:Nat) (m a:Int),ds=[.str<|nm k,.int m,.int a]/\7<=k/\k<10/\0<m/\r=.val (.int<|aLW k m a)
theorem aED(F:FI K mg "word_by_itself" aEo):bF P w K mg base "word_by_itself" 1 3 aDU:=by
 refine dC (N:=["name","count","word"]) (ps:=["name","count","word"]) (k:=0) F λf nd cdv A outer s H E hr ds r hl c=> ?_
 obtain⟨k,m,a,rfl,h7,h10,hm0,rfl⟩:=c;refine aO<|fD (k:=decide<|k=7) (jI (pdv 0) fU rfl rfl rfl<|aMF k h10) (λh=> ?_) λh=>eB ?_
 ·have:k=7:=by simpa using h
  subst this;exact aX<|iQ (fY mX (fY mX (pdv 1) cE)<|pdv 2)
 have n7:¬ k=7:=by simpa using h
 refine aO<|fD (k:=decide<|k=8) (jI (pdv 0) fU rfl rfl rfl<|aOK k h10) (λh=> ?_) λh=>eB ?_
 ·have:k=8:=by simpa using h
  subst this;exact aX (iQ<|dR gY (dR lN (pdv 2) cE (aIP (by decide)<|by decide)) (pdv 1) hm0)
 have n8:¬ k=8:=by simpa using h
 have:k=9:=by omega
 subst this;exact aX (iQ<|dR aKd (pdv 2) cE ⟨by decide,by decide⟩)
def aBA:List D->R->Prop:=λds r=>∃ (k:Nat) (m a c:Int),ds=[.str<|nm k,.int m,.int a,.int c]/\k<6/\0<m/\r=.val (.int<|aHx k m a c)
theorem aCu(F:FI K mg "word_by_another" aBB):bF P w K mg base "word_by_another" 1 4 aBA:=by
 refine dC (N:=["name","count","word","other"]) (ps:=["name","count","word","other"]) (k:=0) F λf nd cdv A outer s H E hr ds r hl c=> ?_
 obtain⟨k,m,a,c,rfl,h6,hm0,rfl⟩:=c;have h10:k<10:=by omega
 refine aO<|fD (k:=decide<|k=0) (jI (pdv 0) fU rfl rfl rfl<|aMR k h10) (λh=> ?_) λh=>eB ?_
 ·have:k=0:=by simpa using h
  subst this;exact aX<|iQ (fY aNu (pdv 2)<|pdv 3)
 have n0:¬ k=0:=by simpa using h
 refine aO<|fD (k:=decide<|k=1) (jI (pdv 0) fU rfl rfl rfl<|aOI k h10) (λh=> ?_) λh=>eB ?_
 ·have:k=1:=by simpa using h
  subst this;exact aX<|iQ (fY aOJ (pdv 2)<|pdv 3)
 have n1:¬ k=1:=by simpa using h
 refine aO<|fD (k:=decide<|k=2) (jI (pdv 0) fU rfl rfl rfl<|aNm k h10) (λh=> ?_) λh=>eB ?_
 ·have:k=2:=by simpa using h
  subst this;exact aX<|iQ (fY aMA (pdv 2)<|pdv 3)
 have n2:¬ k=2:=by simpa using h
 refine aO<|fD (k:=decide<|k=3) (jI (pdv 0) fU rfl rfl rfl<|aMV k h10) (λh=> ?_) λh=>eB ?_
 ·have:k=3:=by simpa using h
  subst this;exact aX (iQ<|dR gY (fY iG (pdv 2)<|pdv 3) (pdv 1) hm0)
 have n3:¬ k=3:=by simpa using h
 refine aO<|fD (k:=decide<|k=4) (jI (pdv 0) fU rfl rfl rfl<|aJw k h10) (λh=> ?_) λh=>eB ?_
 ·have:k=4:=by simpa using h
  subst this;exact aX (iQ<|dR gY (fY mX (pdv 2)<|pdv 3) (pdv 1) hm0)
 have n4:¬ k=4:=by simpa using h
 have:k=5:=by omega
 subst this;exact aX (iQ<|pdv 3)
structure aOd(p:Int×Int)(k:Nat)(i j n:Int)(ws:List Int):Prop where
 sz:p∈bW
 k10:k<10
 i0:0<=i/\i<p.2
 j0:0<=j/\j<p.2
 n0:0<=n/\n<((2^p.1.toNat:Nat):Int)
 len:ws.length=p.2.toNat
 wd:∀w∈ws,0<=w/\w<((2^p.1.toNat:Nat):Int)
noncomputable def aLq(p:Int×Int)(k:Nat)(i j n:Int)(ws:List Int):Int:=newW k ((2^p.1.toNat:Nat):Int) (ws.getD i.toNat 0) (ws.getD j.toNat 0) n
def aBG:List D->R->Prop:=λds r=>∃p k i j n ws,aOd p k i j n ws/\ds=[cJ p,kB k i j n,bP ws]/\r=.val (.int<|aLq p k i j n ws)
theorem aMu(n:Nat):(0:Int)<((2^n:Nat):Int):=by have:0<2^n:=Nat.pow_pos (by decide);generalize 2^n=q at this ⊢;omega
theorem aHO{ws:List Int}{i:Int}{n:Nat}(h:ws.length=n)(h1:i<(n:Int))(h0:0<=i):(ws.map D.int)[i.toNat]? =some (.int<|ws.getD i.toNat 0):=by
 have:i.toNat<ws.length:=by omega
 simp[cK,this]
theorem aCq(F:FI K mg "new_word" aBo)(byself:∃ad,mg "BY_ITSELF"=some (.ref ad)/\∀H:Hp,SqT K H ad [V.str "not",V.str "up",V.str "down"])(GC:bF P w K mg base "word_count" 1 1 aAN)(GI:bF P w K mg base "word_by_itself" 1 3 aDU)(GA:bF P w K mg base "word_by_another" 1 4 aBA):bF P w K mg base "new_word" 2 3 aBG:=by
 refine dC (N:=["size","step","filling","name","word"]) (ps:=["size","step","filling"]) (k:=1) F λf nd cdv A outer s H E hr ds r hl c=> ?_
 obtain⟨p,k,i,j,n,ws,O,rfl,rfl⟩:=c;obtain⟨h1,h2,h3,h4,h5⟩:=vZ p O.sz;have hm0:=aMu p.1.toNat;have ec:(2:Int)^p.1.toNat=((2^p.1.toNat:Nat):Int):=by push_cast;rfl
 have e2:p.2=((p.2.toNat:Nat):Int):=by omega
 obtain⟨ad,hB,hq⟩:=byself;have ai:(ws.map D.int)[i.toNat]? =some (.int<|ws.getD i.toNat 0):=aHO O.len (by have:=O.i0.2;omega) O.i0.1;have aj:(ws.map D.int)[j.toNat]? =some (.int<|ws.getD j.toNat 0):=aHO O.len (by have:=O.j0.2;omega) O.j0.1
 by_cases k6:k<6
 ·have es:kB k i j n=.tup [.str<|nm k,.int i,.int j]:=by unfold kB;rw[if_pos k6]
  rw[es];refine aO<|iD 3 nd rfl (Or.inl rfl) (pdx (n:=0)<|pdv 1) ?_;refine aO (qA (jI (pdv 3) fU rfl rfl rfl<|aDm k O.k10) (by simp;omega)<|eB ?_);refine aO<|iD 4 nd rfl (Or.inl rfl) (zW (i:=i) (pdv 2) (pdx (n:=1)<|pdv 1) O.i0.1 ai λ_ _=>rfl) ?_;refine aO (qA (aDL rfl hB (λH=>hq H) (pdv 3) rfl rfl rfl) (by rw[aDz k O.k10];simp;omega)<|eB ?_);refine aX<|eJ (pdc (ds:=[.str<|nm k,.int ((2^p.1.toNat:Nat):Int),.int<|ws.getD i.toNat 0,.int<|ws.getD j.toNat 0]) GA hr (aB (pdv 3)<|aB (PEd.cast (pdc (ds:=[cJ p]) GC hr (aB (pdv 0) aM) ⟨p,rfl,by omega,by omega,rfl⟩)<|by rw[ec]) (aB (pdv 4)<|aB (zW (i:=j) (pdv 2) (pdx (n:=2)<|pdv 1) O.j0.1 aj λ_ _=>rfl) aM)) ⟨k,_,_,_,rfl,k6,hm0,rfl⟩) trivial ?_;unfold aLq newW;rw[if_neg<|by omega,if_neg<|by omega]
 ·by_cases k6':k=6
  ·subst k6';have es:kB 6 i j n=.tup [.str<|nm 6,.int i,.int n]:=rfl;rw[es];refine aO<|iD 3 nd rfl (Or.inl rfl) (pdx (n:=0)<|pdv 1) ?_;refine aO<|pX (jI (pdv 3) fU rfl rfl rfl<|aDm 6 O.k10) rfl ?_;exact aX<|iQ (pdx (n:=2)<|pdv 1)
  ·have es:kB k i j n=.tup [.str<|nm k,.int i]:=by unfold kB;rw[if_neg k6,if_neg k6']
   rw[es];refine aO<|iD 3 nd rfl (Or.inl rfl) (pdx (n:=0)<|pdv 1) ?_;refine aO (qA (jI (pdv 3) fU rfl rfl rfl<|aDm k O.k10) (by simp;omega)<|eB ?_);refine aO<|iD 4 nd rfl (Or.inl rfl) (zW (i:=i) (pdv 2) (pdx (n:=1)<|pdv 1) O.i0.1 ai λ_ _=>rfl) ?_;refine aO<|pX (aDL rfl hB (λH=>hq H) (pdv 3) rfl rfl rfl) (by rw[aDz k O.k10];simp;omega) ?_;refine aX<|eJ (pdc (ds:=[.str<|nm k,.int ((2^p.1.toNat:Nat):Int),.int<|ws.getD i.toNat 0]) GI hr (aB (pdv 3) (aB (PEd.cast (pdc (ds:=[cJ p]) GC hr (aB (pdv 0) aM) ⟨p,rfl,by omega,by omega,rfl⟩)<|by rw[ec])<|aB (pdv 4) aM)) ⟨k,_,_,rfl,by omega,O.k10,hm0,rfl⟩) trivial ?_;unfold aLq newW;rw[if_neg k6',if_pos<|by omega]
def aBx:List D->R->Prop:=λds r=>∃k i j n,ds=[kB k i j n]/\r=.val (.int i)
theorem aKe(k:Nat)(i j n:Int):∃es,kB k i j n=.tup (.str (nm k)::.int i::es):=by
 unfold kB
 split
 ·exact⟨_,rfl⟩
 ·split
  ·exact⟨_,rfl⟩
  ·exact⟨_,rfl⟩
theorem aCv(F:FI K mg "written_box" aBk):bF P w K mg base "written_box" 1 1 aBx:=by
 refine dC (N:=["step"]) (ps:=["step"]) (k:=0) F λf nd cdv A outer s H E hr ds r hl c=> ?_
 obtain⟨k,i,j,n,rfl,rfl⟩:=c;obtain⟨es,e⟩:=aKe k i j n;rw[e];exact aX<|iQ (pdx (n:=1)<|pdv 0)
noncomputable def aPC(p:Int×Int)(k:Nat)(i j n:Int)(ws:List Int):List Int:=ws.set i.toNat<|aLq p k i j n ws
def zT:List D->R->Prop:=λds r=>∃p k i j n ws,aOd p k i j n ws/\ds=[cJ p,kB k i j n,bP ws]/\r=.val (bP<|aPC p k i j n ws)
theorem aDp(ws:List Int){i:Nat}(h:i<ws.length):DL.cutD (ws.map D.int) none (some (i:Int))=(ws.take i).map D.int:=by
 unfold DL.cutD;have h1:HT.sIx (ws.map D.int).length 0 none=0:=rfl
 have h2:HT.sIx (ws.map D.int).length (ws.map D.int).length (some (i:Int))=i:=by rw[HT.sIx_nat,aC];omega
 rw[h1,h2,kE];simp
theorem aAU(ws:List Int){i:Nat}(h:i<ws.length):DL.cutD (ws.map D.int) (some<|(i:Int)+1) none=(ws.drop<|i+1).map D.int:=by
 unfold DL.cutD;have e:((i:Int)+1)=((i+1:Nat):Int):=by push_cast;rfl
 have h1:HT.sIx (ws.map D.int).length 0 (some<|(i:Int)+1)=i+1:=by rw[e,HT.sIx_nat,aC];omega
 have h2:HT.sIx (ws.map D.int).length (ws.map D.int).length none=ws.length:=by rw[HT.sIx_none,aC]
 rw[h1,h2,kG,eQ<|by rw[fM,aC];omega]
theorem aEp(F:FI K mg "step_on" aEm)(GB:bF P w K mg base "written_box" 1 1 aBx)(GN:bF P w K mg base "new_word" 2 3 aBG):bF P w K mg base "step_on" 3 3 zT:=by
 refine dC (N:=["size","step","filling","box"]) (ps:=["size","step","filling"]) (k:=2) F λf nd cdv A outer s H E hr ds r hl c=> ?_
 obtain⟨p,k,i,j,n,ws,O,rfl,rfl⟩:=c;obtain⟨h1,h2,h3,h4,h5⟩:=vZ p O.sz;have li:i.toNat<ws.length:=by have:=O.i0;rw[O.len];omega
 have ei:i=((i.toNat:Nat):Int):=by have:=O.i0;omega
 have l6:ws.length<=6:=by rw[O.len];omega
 refine aO<|lE (d:=.int ((i.toNat:Nat):Int)) 3 (PEd.cast (pdc (ds:=[kB k i j n]) GB hr (aB (pdv 1) aM) ⟨k,i,j,n,rfl,rfl⟩)<|by rw[<-ei]) ?_;refine aX<|eJ (PEd.cast (tI (tI (vS (ol:=none) (oh:=some ((i.toNat:Nat):Int)) (pdv 2) trivial (pdv 3) ?_) (pdT (ds:=[.int<|aLq p k i j n ws])<|aB (pdc (ds:=[cJ p,kB k i j n,bP ws]) GN hr (aB (pdv 0) (aB (pdv 1)<|aB (pdv 2) aM)) ⟨p,k,i,j,n,ws,O,rfl,rfl⟩) aM) ?_) (vS (ol:=some<|((i.toNat:Nat):Int)+1) (oh:=none) (pdv 2) (fY iG (pdv 3) cE) trivial ?_) ?_) ?_) trivial rfl
 ·rw[HT.sIx_nat,aC];omega
 ·rw[aDp ws li];simp only[aC,dH,bD,fX];omega
 ·have e:(((i.toNat:Nat):Int)+1)=((i.toNat+1:Nat):Int):=by push_cast;rfl
  rw[e,HT.sIx_nat,aC];omega
 ·rw[aDp ws li,aAU ws li];simp only[aN,aC,dH,fM,bD,fX];omega
 ·rw[aDp ws li,aAU ws li];unfold bP aPC;rw[List.set_eq_take_append_cons_drop,if_pos li];simp
theorem aIx{p:Int×Int}{q:SQ}{ws:List Int}(O:sQ p q)(G:Fil p ws):aOd p q.1 q.2.1 q.2.2.1 q.2.2.2 ws:=⟨O.sz,O.k10,O.i0,O.j0,O.n0,G.len,G.wd⟩
theorem aGj(F:FI K mg "numbers_of_step" aOn)(ztuple:mg "tuple"=none)(GN:bF P w K mg base "number_of" 2 2 aPf)(GS:bF P w K mg base "step_on" 3 3 zT)(GF:bF P w K mg base "fillings" 2 1 sD):bF P w K mg base "numbers_of_step" 4 2 aPp:=by
 have nd2:(["filling","size","step"]:List Str).Nodup:=by decide+kernel
 refine dC (N:=["size","step"]) (ps:=["size","step"]) (k:=3) F λf nd cdv A outer s H E hr ds r hl c=> ?_
 obtain⟨p,q,hp,O,rfl,rfl⟩:=c;have f9:(bV p).length<=64:=kM hp;obtain⟨h1,h2,h3,h4,h5⟩:=vZ p hp
 have ec:(((bV p).map bP).filter λ_=>true).map (λd=>D.int ((wO p (onQ p q<|kA d):Nat):Int))=bT (jA p q):=by
  rw[cV.mpr λ_ _=>rfl];unfold bT jA;rw[aV,aV];refine cF λg _=> ?_
  show D.int ((wO p (onQ p q (kA<|bP g)):Nat):Int)=_;rw[gW];rfl
 refine aX (iQ<|kQ rfl ztuple (PEd.bor<|PEd.val (PEd.cast (kJ (ds:=(bV p).map bP) (N:=["filling","size","step"]) (M:=["size","step"]) (cap:=[none,some 0,some 1]) (sc:=aK aOn) (Tb:=λd=>[.val d,.val<|cJ p,.val<|sqD q]) (λ_=>true) (λd=>D.int ((wO p (onQ p q<|kA d):Nat):Int)) (jJ (PEd.val<|pdc (ds:=[cJ p]) GF hr (aB (pdv 0) aM) ⟨p,hp,rfl,rfl⟩)) (by rw[aC];omega) rfl (by decide+kernel) rfl (by decide+kernel) rfl (λcl C fp s H d hd=>pgN 0) (λd hd=>⟨.inl rfl,.inr rfl,.inr rfl,trivial⟩) (λcl C fp s H d hd=>.inl ⟨rfl,rfl⟩) λcl C2 fp s H d hd _=> ?_)<|by rw[ec])));obtain⟨g,hg,rfl⟩:=wN hd;rw[gW];have G:=lJ hp hg;have e:=(aDj hp<|tP O G).1;exact pdc (ds:=[cJ p,bP<|onQ p q g]) GN hr (aB (pdv 1)<|aB (pdc (ds:=[cJ p,sqD q,bP g]) GS hr (aB (pdv 1) (aB (pdv 2)<|aB (pdv 0) aM)) ⟨p,_,_,_,_,g,aIx O G,rfl,rfl⟩) aM) ⟨p,_,rfl,by omega,by omega,by rw[e]⟩
theorem aCf(F:FI K mg "moves_of" aDo)(GN:bF P w K mg base "numbers_of_step" 4 2 aPp):bF P w K mg base "moves_of" 5 2 aIe:=by
 have nd2:(["step","price","size"]:List Str).Nodup:=by decide+kernel
 refine dC (N:=["size","stock"]) (ps:=["size","stock"]) (k:=4) F λf nd cdv A outer s H E hr ds r hl c=> ?_
 obtain⟨p,L,hp,S,dn,rfl,rfl⟩:=c;have l8:=S.le
 have ec:((L.map skD).filter λ_=>true).map (λd=>mvD p<|uM L d)=L.map (mvD p):=by
  rw[cV.mpr λ_ _=>rfl,aV];refine cF λs hs=> ?_
  show mvD p (uM L<|skD s)=_;rw[wR dn hs]
 refine aX<|eJ (PEd.cast (kJ (ds:=L.map skD) (N:=["step","price","size"]) (M:=["size","stock"]) (cap:=[none,none,some 0]) (sc:=aK aDo) (Tb:=λd=>[.val<|sqD (uM L d).1,.val<|.int (uM L d).2,.val<|cJ p]) (λ_=>true) (λd=>mvD p<|uM L d) (jJ<|pdv 1) (by rw[aC];omega) rfl (by decide+kernel) rfl (by decide+kernel) rfl (λcl C fp s H d hd=> ?_) (λd hd=>⟨.inl rfl,.inl rfl,.inr rfl,trivial⟩) (λcl C fp s H d hd=>.inl ⟨rfl,rfl⟩) λcl C2 fp s H d hd _=> ?_)<|by rw[ec]) trivial rfl
 ·obtain⟨z,hz,rfl⟩:=aQ.mp hd;rw[wR dn hz];exact lO (ds:=[sqD z.1,.int z.2]) (js:=[0,1]) rfl (eZ (pgn 0)<|eZ (pgn 1) lG) rfl rfl
 ·obtain⟨z,hz,rfl⟩:=aQ.mp hd;rw[wR dn hz];exact pdT (ds:=[.int z.2,tN<|jA p z.1]) (aB (pdv 1)<|aB (pdc (ds:=[cJ p,sqD z.1]) GN hr (aB (pdv 2)<|aB (pdv 0) aM) ⟨p,z.1,hp,(S.st z hz).1,rfl,rfl⟩) aM)
theorem aEK(F:FI K mg "numbers_behind" aIW)(ztuple:mg "tuple"=none):bF P w K mg base "numbers_behind" 1 2 aLN:=by
 have nd2:(["number","other"]:List Str).Nodup:=by decide+kernel
 refine dC (N:=["one","other"]) (ps:=["one","other"]) (k:=0) F λf nd cdv A outer s H E hr ds r hl c=> ?_
 obtain⟨one,other,h1,h2,rfl,rfl⟩:=c
 have ec:((bT one).filter λ_=>true).map (λd=>match d with | .int i=>D.int ((other.getD i.toNat 0:Nat):Int)|_=>.non)=bT (iN other one):=by rw[cV.mpr λ_ _=>rfl];unfold bT iN;rw[aV,aV];rfl
 refine aX (iQ<|kQ rfl ztuple (PEd.bor<|PEd.val (PEd.cast (kJ (ds:=bT one) (N:=["number","other"]) (M:=["one","other"]) (cap:=[none,some 1]) (sc:=aK aIW) (Tb:=λd=>[.val d,.val (.tup<|bT other)]) (λ_=>true) (λd=>match d with | .int i=>D.int ((other.getD i.toNat 0:Nat):Int)|_=>.non) (oW<|pdv 0) (by rw[aBw];omega) rfl (by decide+kernel) rfl (by decide+kernel) rfl (λcl C fp s H d hd=>pgN 0) (λd hd=>⟨.inl rfl,.inr rfl,trivial⟩) (λcl C fp s H d hd=>.inl ⟨rfl,rfl⟩) λcl C2 fp s H d hd _=> ?_)<|by rw[ec])));obtain⟨i,hi,rfl⟩:=aQ.mp hd;exact vJ (n:=i) (pdv 1) (pdv 0) (aNb<|h2 i hi) λ_ _=>rfl
abbrev nl1:List Str:=["waiting","moves","bound","rank","row","numbers","place","move","price","longer"]
theorem aGJ(F:FI K mg "put_longer_rows" aPs)(zenumerate:mg "enumerate"=none)(GB:bF P w K mg base "numbers_behind" 1 2 aLN):pS P w K (wtL P w K) mg base "put_longer_rows" 2 6 aOe:=by
 obtain⟨f,fd,hm,F⟩:=F;have nd:nl1.Nodup:=by decide+kernel
 refine aKw (Z:=wtL P w K) (N:=nl1) (ps:=["waiting","moves","bound","rank","row","numbers"]) (k:=1) F ⟨rfl,rfl,rfl,nd,rfl,by decide+kernel,by decide+kernel⟩ hm (λ_ _ _ _ _ _ us hl=>match us,hl with | [_,_,_,_,_,_],_=>rfl) (λcdv A outer s H E B hB hr a ds post hl c=> ?_)<|aGG P w K;obtain⟨p,L,b,r,row,nb,hp,L9,hnb,r9,ndT,hT,rfl,rfl⟩:=c;have hu:=uN hr 4;have f9:(bV p).length<=64:=kM hp;refine aX<|mJ (ds:=lI (L.map<|mvD p)) (λt sd=>∃a':Wt,a'.l=a.l/\a'.T=lgQ p L b r row nb t a.T/\sd=[wtS P w K a',.val<|.lst (L.map<|mvD p),.val<|.int b,.val<|.tup [.int r.1,.int r.2],.val (.tup<|bT row),.val (.tup<|bT nb),.un,.un,.un,.un]) (qG rfl zenumerate<|pdv 1) ⟨_,Le.refl _,a,rfl,rfl,rfl⟩ (λt d sdt hd ht=> ?_) λsdn hn=> ?_
 ·obtain⟨x,hx,rfl⟩:=mH hd;obtain⟨a',el,eT,rfl⟩:=ht
  have tl:t<L.length:=by have:=(aD.mp hx).1;simpa using this
  have ex:x=mvD p (L.getD t AQ):=by rw[aZ,fA tl] at hx;rw[<-bM.inj hx];simp[cK,tl]
  subst ex;have es:lgQ p L b r row nb (t+1) a.T=if r.1+(L.getD t AQ).2<=b then jM (lgQ p L b r row nb t a.T) (r.1+(L.getD t AQ).2,r.2+1) (nP (row++[t],iN (jA p (L.getD t AQ).1) nb)) else lgQ p L b r row nb t a.T:=rfl
  have ndt:=aFR (p:=p) (L:=L) (b:=b) (r:=r) (row:=row) (nb:=nb) ndT t;have tt:=aHR (p:=p) (L:=L) (b:=b) (r:=r) (row:=row) (nb:=nb) (T:=a.T) t;rw[<-eT] at es ndt tt;obtain⟨pl0,pl1⟩:=hnb;generalize L.getD t AQ=m at es;refine⟨[wtS P w K a',.val<|.lst (L.map<|mvD p),.val<|.int b,.val<|.tup [.int r.1,.int r.2],.val (.tup<|bT row),.val (.tup<|bT nb),.val<|.int (t:Int),.val<|mvD p m,.un,.un],lO (js:=[6,7]) rfl (eZ (pgn 6)<|eZ (pgn 7) lG) rfl rfl, ?_⟩;refine aO<|lE (d:=.int<|r.1+m.2) 8 (fY iG (pdx (n:=0) (d:=.int r.1)<|pdv 3) (pdx (n:=0) (d:=.int m.2)<|pdv 7)) ?_;refine aX<|fD (k:=decide<|r.1+m.2<=b) (rV aLB (pdv 8) (pdv 2)<|iH _) (λq=> ?_) λq=>eB ?_
  ·rw[if_pos<|of_decide_eq_true q] at es;have e1:bT row++[.int (t:Int)]=bT (row++[t]):=by unfold bT;rw[bK];rfl
   refine aO<|lE (d:=p2D<|nP (row++[t],iN (jA p m.1) nb)) 9 (PEd.cast (pdT (ds:=[.tup (bT<|row++[t]),.tup (bT<|iN (jA p m.1) nb)]) (aB (PEd.cast (tI (d1:=bT row) (d2:=[.int (t:Int)]) (pdv 4) (pdT (ds:=[.int (t:Int)])<|aB (pdv 6) aM)<|by unfold bT;rw[aC];show _+1<=10000;omega)<|by rw[e1])<|aB (pdc (ds:=[.tup<|bT nb,.tup (bT<|jA p m.1)]) (r:=.val<|.tup (bT<|iN (jA p m.1) nb)) GB hr (aB (pdv 5)<|aB (pdx (n:=1) (d:=.tup (bT<|jA p m.1))<|pdv 7) aM) ⟨nb,jA p m.1,by omega,λi hi=>by rw[aKN];exact pl1 i hi,rfl,rfl⟩) aM))<|by rw[aOc]) ?_;generalize nP (row++[t],iN (jA p m.1) nb)=y at es;refine aX<|xT (k:=rkK (r.1+m.2,r.2+1)) (ks:=wtK a'.T) (ls:=a'.ls) (dss:=wtD a'.T) (d:=p2D y) 0 (by show(A.deeper _).units+1<AS;omega) rfl (pv 0) (PEd.cast (pdT (ds:=[.int<|r.1+m.2,.int<|r.2+1]) (aB (pdv 8)<|aB (fY iG (pdx (n:=1) (d:=.int r.2)<|pdv 3) cE) aM)) rfl) (λz=>aDi 9 rfl<|pv 9) (by have:=aJV a'.T;unfold wtD;rw[aC];omega) (λds hd=>by have:=aJh ds hd;omega) (λn ds hk hd=> ?_) λhk a9=> ?_
   ·obtain⟨k1,k2⟩:=uU y ndt hk hd;refine⟨[wtS P w K ⟨a'.l,a'.ls,jM a'.T (r.1+m.2,r.2+1) y⟩,.val<|.lst (L.map<|mvD p),.val<|.int b,.val<|.tup [.int r.1,.int r.2],.val (.tup<|bT row),.val (.tup<|bT nb),.un,.un,.un,.un],⟨.inr ?_,.inr rfl,.inr rfl,.inr rfl,.inr rfl,.inr rfl,.inl rfl,.inl rfl,.inl rfl,.inl rfl,trivial⟩,⟨a'.l,a'.ls,jM a'.T (r.1+m.2,r.2+1) y⟩,el,es.symm,rfl⟩;unfold wtS;rw[k1,k2];rfl
   ·have k1:=wB y hk;refine⟨[wtS P w K ⟨a'.l,a'.ls++[a9],jM a'.T (r.1+m.2,r.2+1) y⟩,.val<|.lst (L.map<|mvD p),.val<|.int b,.val<|.tup [.int r.1,.int r.2],.val (.tup<|bT row),.val (.tup<|bT nb),.un,.un,.un,.un],⟨.inr ?_,.inr rfl,.inr rfl,.inr rfl,.inr rfl,.inr rfl,.inl rfl,.inl rfl,.inl rfl,.inl rfl,trivial⟩,⟨a'.l,a'.ls++[a9],jM a'.T (r.1+m.2,r.2+1) y⟩,el,es.symm,rfl⟩;unfold wtS;rw[k1];unfold wtK wtD;rw[bK,bK];rfl
  ·rw[if_neg<|of_decide_eq_false q] at es;exact⟨[wtS P w K a',.val<|.lst (L.map<|mvD p),.val<|.int b,.val<|.tup [.int r.1,.int r.2],.val (.tup<|bT row),.val (.tup<|bT nb),.un,.un,.un,.un],⟨.inr rfl,.inr rfl,.inr rfl,.inr rfl,.inr rfl,.inr rfl,.inl rfl,.inl rfl,.inl rfl,.inr rfl,trivial⟩,a',el,es.symm,rfl⟩
 ·obtain⟨a',el,eT,rfl⟩:=hn;refine⟨a',⟨el, ?_⟩,rfl⟩;rw[eT,kP,aC]
abbrev nl2:List Str:=["moves","bound","start","waiting","known","found","rank","ready","row","numbers"]
theorem aIc{CN:BF}(zlen:mg "len"=none)(zmin:mg "min"=none)(zlist:mg "list"=none)(zsorted:mg "sorted"=none)(hmt:∃t,mg "MOST_TABLES"=some (.int 500 t))(xk:aNV K mg CN)(GP:pS P w K (wtL P w K) mg base "put_longer_rows" 2 6 aOe){cdv:BD}{A:BG}{outer:List Env}{s:BE}{H:Hp}{E:XK}(hr:Room 2 (A.deeper<|Ag "found_rows" (aK sFd) s.heap.objs.size f cdv)){ξ:BD->BE->Prop}(hξ:PassesOwn (AG P w) (A.deeper<|Ag "found_rows" (aK sFd) s.heap.objs.size f cdv) (Ag "found_rows" (aK sFd) s.heap.objs.size f cdv) ξ){p:Int×Int}{L:List SK}{b:Int}(hp:p∈bW)(S0:StkOk p L)(b3:b<=300)(tk:500<(bkF p L b).length->∀sd,uT ((jB CX0 P w K mg base nl2 "found_rows" (aK sFd) f cdv A outer s H E).wish ξ) (.ref CN) sd){Ed:hW}(hEd:(bkF p L b).length<=500->Ed.rt (.own<|(bkF p L b).map fdD)):PSd ((jB CX0 P w K mg base nl2 "found_rows" (aK sFd) f cdv A outer s H E).wish ξ) (init 10 [.lst (L.map<|mvD p),.int b,.tup (bT<|st0 p)]) (cM sFd) Ed:=by
 obtain⟨tm,hmt⟩:=hmt;have nd:nl2.Nodup:=by decide+kernel
 have hu8:=uN hr 8;have hu4:=uN hr 4;have hu2:=uN hr 2;have hu1:=uN hr 1;have hpr:=S0.pr;have l8:=S0.le;have m8:∀ {n:Nat},n<=500->n*L.length<=4000:=λh=>cD (aNS h l8)<|by decide
 refine aO<|yU 3 nd rfl (Or.inl rfl) λl3=> ?_;refine aLT (K:=∀ls T,(fd0 p b).T=T->PSd _ [.val<|.lst (L.map<|mvD p),.val<|.int b,.val<|.tup (bT<|st0 p),wtS P w K ⟨l3,ls,T⟩,.un,.un,.un,.un,.un,.un] _ _) (λkey=>aO (fD (k:=decide<|0<=b) (rV aJa (pdv 1) cE<|iH _) (λq=> ?_) λq=>eB<|key [] [] (if_neg<|of_decide_eq_false q))) λls T e0=> ?_
 ·refine aX<|aHd (ds:=[p2D<|nP ([],st0 p)]) 3 hu1 rfl (pv 3) (pdL (ds:=[p2D<|nP ([],st0 p)])<|aB (PEd.cast (pdT (ds:=[.tup<|bT [],.tup (bT<|st0 p)]) (aB (pdT (ds:=[]) aM)<|aB (pdv 2) aM))<|by rw[aOc]) aM) (λz=>nomatch z) (hZ rfl) λa=> ?_;exact key [a] [((0,0),[nP ([],st0 p)])] (if_pos<|of_decide_eq_true q)
 subst e0;refine aO<|aHq (hkT P w) 4 nd rfl (Or.inl rfl) λl4=> ?_;refine aO<|qL (ds:=[]) 5 (pdL (ds:=[]) aM) λl5=> ?_;refine aO<|aEO (λm sd=>∃S dn r ls,Wk p L b dn r [] S/\4001<dn.length+m/\iP p L b m S=iP p L b 4002 (fd0 p b)/\S.fd.length<=500/\sd=[.val<|.lst (L.map<|mvD p),.val<|.int b,.val<|.tup (bT<|st0 p),wtS P w K ⟨l3,ls,S.T⟩,oG (hkT P w) K l4 (S.kn.map lY)<|S.kn.map λ_=>.bl true,.own l5<|S.fd.map fdD,.un,.un,.un,.un]) ⟨4002,_,Le.refl _,fd0 p b,[],(0,0),ls,wk0 p L b,by simp,rfl,cQ _,rfl⟩ (λm sdm hw=> ?_) (hp:=hξ);obtain⟨S,dn,r,ls,W,hU,hR,s5,rfl⟩:=hw;refine⟨decide<|(0:Int)<((wtK S.T).length:Int),rV aLV (aKJ 3 rfl zlen rfl<|pv 3) cE<|iH _,λq=> ?_,λq=> ?_⟩
 ·have e:S.T=[]:=by have:=of_decide_eq_false q;unfold wtK at this;rw[aC] at this;exact gI (by omega)
  have e2:iP p L b m S=S:=by
   cases m with
   |zero=>rfl
   |succ m=>exact if_pos e
  have e3:bkF p L b=S.fd:=by unfold bkF;rw[<-hR,e2]
  refine aX<|qK 5 rfl (pv 5) ?_;rw[<-e3];exact hEd (by rw[e3];exact s5)
 ·have hne:S.T≠[]:=λz=>by rw[z] at q;cases q
  obtain⟨t,ht,hm,tnd,tne,W1,eT,W2⟩:=W.turn hpr hne;obtain⟨M,t',g1,g2,g3,g4,_⟩:=aMr (X:=((jB CX0 P w K mg base nl2 "found_rows" (aK sFd) f cdv A outer s H E).wish ξ)) hu4 hne;have et:t=t':=(bM.inj<|g1.symm.trans ht).symm;subst et
  have tl:t.2.length<=10000:=by have h1:=(gK t.2).length_eq;have h2:_<=1+S.fd.length*L.length:=W1.few2;have:=m8 s5;omega
  refine aO<|lE (d:=rkD t.1) 6 (aKr rfl zmin (PEd.bor<|PEd.val (aHm 3 rfl zlist rfl<|pv 3)) M g2) ?_;refine aO<|aGh (ps:=t.2) (rk:=rkP t.2) (k:=rkK t.1) 3 7 (eI S.T) hu1 rfl zsorted rfl (pv 3) (PEd.cast (pdv 6) rfl) g3 g4 (aNd tnd tl hu8) nd rfl (Or.inl rfl) λl7 qs qp qw=>iB 7 rfl ?_;have eq:=aJU tnd qp qw;subst eq;have ek:wtK (S.T.eraseIdx<|eI S.T)=(wtK S.T).eraseIdx (eI S.T):=by unfold wtK;rw[dD,dD,bK,kE,kG]
  have ed:wtD (S.T.eraseIdx<|eI S.T)=(wtD S.T).eraseIdx (eI S.T):=by unfold wtD;rw[dD,dD,bK,kE,kG]
  have e5:odG P w K l3 ((wtK S.T).eraseIdx<|eI S.T) (ls.eraseIdx<|eI S.T) ((wtD S.T).eraseIdx<|eI S.T)=wtS P w K ⟨l3,ls.eraseIdx<|eI S.T,S.T.eraseIdx<|eI S.T⟩:=by unfold wtS;rw[ek,ed]
  refine aMm (sd':=[.val<|.lst (L.map<|mvD p),.val<|.int b,.val<|.tup (bT<|st0 p),wtS P w K ⟨l3,ls.eraseIdx<|eI S.T,({S with T:=S.T.eraseIdx (eI S.T)}:FdS).T⟩,oG (hkT P w) K l4 (({S with T:=S.T.eraseIdx (eI S.T)}:FdS).kn.map lY)<|({S with T:=S.T.eraseIdx (eI S.T)}:FdS).kn.map λ_=>.bl true,.own l5<|({S with T:=S.T.eraseIdx (eI S.T)}:FdS).fd.map fdD,.val<|rkD t.1,.val (.lst<|(gA t.2).map p2D),.un,.un]) ⟨.inr rfl,.inr rfl,.inr rfl,.inr e5,.inr rfl,.inr rfl,.inr rfl,.inr rfl,.inr rfl,.inr rfl,trivial⟩ ?_
  have hR2:∃m',m=m'+1/\iP p L b m' (fdT p L b S)=iP p L b 4002 (fd0 p b):=by
   cases m with
   |zero=>have:=W.few2;have:=m8 s5;omega
   |succ m'=>have e6:iP p L b (m'+1) S=iP p L b m' (fdT p L b S):=if_neg hne;exact⟨m',rfl,by rw[<-e6];exact hR⟩
  obtain⟨m',rfl,hR2⟩:=hR2
  have tpos:0<(gA t.2).length:=by rw[(gK t.2).length_eq];exact iV.mpr tne
  have s51:({S with T:=S.T.eraseIdx (eI S.T)}:FdS).fd.length<=500:=s5;rw[eT] at hR2 W2;clear hR e5 ek ed g1 g2 g3 g4 M qp qw eT;generalize ({S with T:=S.T.eraseIdx (eI S.T)}:FdS)=S1 at W1 W2 hR2 s51
  have pre:∀j,(fdP p L b t.1 S1<|(gA t.2).take j).fd.length<=(bkF p L b).length:=λj=>by
   have e1:fdP p L b t.1 (fdP p L b t.1 S1<|(gA t.2).take j) ((gA t.2).drop j)=fdP p L b t.1 S1 (gA t.2):=by
    conv=>rhs;rw[<-fP j (gA t.2)]
    unfold fdP;rw[fG]
   have h1:=(aAl (p:=p) (L:=L) b t.1 ((gA t.2).drop j) (fdP p L b t.1 S1<|(gA t.2).take j)).length_le;have h2:=(aDV (p:=p) (L:=L) (b:=b) m' (fdP p L b t.1 S1<|gA t.2)).length_le;rw[e1] at h1;rw[hR2] at h2;exact cD h1 h2
  generalize ls.eraseIdx (eI S.T)=ls1;refine aX<|mJ (ds:=(gA t.2).map p2D) (λj sd=>∃S' ls,S'=fdP p L b t.1 S1 ((gA t.2).take j)/\S'.fd.length<=500/\sd=[.val<|.lst (L.map<|mvD p),.val<|.int b,.val<|.tup (bT<|st0 p),wtS P w K ⟨l3,ls,S'.T⟩,oG (hkT P w) K l4 (S'.kn.map lY)<|S'.kn.map λ_=>.bl true,.own l5<|S'.fd.map fdD,.val<|rkD t.1,.val (.lst<|(gA t.2).map p2D),.un,.un]) (jJ<|pdv 7) ⟨_,Le.refl _,S1,ls1,rfl,s51,rfl⟩ (λj d sdj hd hj=> ?_) (λsdn hn=> ?_) (hp:=hξ)
  ·obtain⟨S',ls2,eS,f1,rfl⟩:=hj;have pj:=pre<|j+1;obtain⟨y,hy,rfl,ey⟩:=aAX hd;have jl:j<(gA t.2).length:=(aD.mp hy).1;have Wj:=W1.take hpr j (by omega);have Wj1:=W1.take hpr (j+1) (by omega);rw[ey,uS,<-eS] at Wj1;rw[<-eS] at Wj;have eS1:fdP p L b t.1 S1 ((gA t.2).take<|j+1)=fdI p L b t.1 S' (unP y):=by rw[ey,uS,<-eS]
   obtain⟨row,rfl,ro,er,rb⟩:=W1.rs y<|aY hy;rw[eS1] at pj ⊢;rw[aLZ] at Wj1 pj ⊢
   have rU:row.length<=300:=by
    have:=aCR (pr:=prK L) row λk hk=>hpr k<|ro k hk
    have rb:S45.prQ (prK L) row<=b:=by rw[er] at rb;exact rb
    omega
   have nbo:=(aCF hp (λs hs=>(S0.st s hs).1) ro).1;have tt:=Wj.tot2;have:=m8 f1;have okj:=Wj.ok
   have kl:S'.kn.length<=500:=by rw[okj.kn,aC];exact f1
   have dy:p2D (itP p L row)=.tup [.tup<|bT row,.tup (bT<|nrQ p L row)]:=aOc _;rw[dy];clear Wj Wj1 eS1 ey hy hd eS dy;refine⟨[.val<|.lst (L.map<|mvD p),.val<|.int b,.val<|.tup (bT<|st0 p),wtS P w K ⟨l3,ls2,S'.T⟩,oG (hkT P w) K l4 (S'.kn.map lY)<|S'.kn.map λ_=>.bl true,.own l5<|S'.fd.map fdD,.val<|rkD t.1,.val (.lst<|(gA t.2).map p2D),.val (.tup<|bT row),.val<|.tup (bT<|nrQ p L row)],lO (ds:=[.tup<|bT row,.tup (bT<|nrQ p L row)]) (js:=[8,9]) rfl (eZ (pgn 8)<|eZ (pgn 9) lG) rfl rfl, ?_⟩
   have inj:decide (nrQ p L row∈S'.kn)=true↔lY (nrQ p L row)∈S'.kn.map lY:=by
    rw[decide_eq_true_iff]
    constructor
    ·exact λh=>aQ.mpr ⟨_,h,rfl⟩
    ·intro h;obtain⟨e,e1,e2⟩:=aQ.mp h;rw[<-aAY e2];exact e1
   refine aLT (K:=∀S2 ls3,S2=fdI p L b t.1 S' (row,nrQ p L row)->PSd _ [.val<|.lst (L.map<|mvD p),.val<|.int b,.val<|.tup (bT<|st0 p),wtS P w K ⟨l3,ls3,S2.T⟩,oG (hkT P w) K l4 (S2.kn.map lY)<|S2.kn.map λ_=>.bl true,.own l5<|S2.fd.map fdD,.val<|rkD t.1,.val (.lst<|(gA t.2).map p2D),.val (.tup<|bT row),.val<|.tup (bT<|nrQ p L row)] _ _) (λkey=>aO (fD (k:= !decide (nrQ p L row∈S'.kn)) (aFZ (hk:=hkT P w) (k:=lY<|nrQ p L row) inj hu2 (PEd.cast (pdv 9)<|by rw[show(hkT P w).dat (lY<|nrQ p L row)=tD (lY<|nrQ p L row) from rfl,aIq]) (aKQ 4 rfl<|pv 4)) (λq=> ?_) λq=>eB<|key S' ls2 (if_pos<|by simpa using q).symm)) λS2 ls3 e2=> ?_
   ·have nk:nrQ p L row∉S'.kn:=by simpa using q
    refine aO<|aGN (hk:=hkT P w) (k:=lY<|nrQ p L row) (d:=.bl true) 4 hu2 rfl (pv 4) aOH (PEd.cast (pdv 9)<|by rw[show(hkT P w).dat (lY<|nrQ p L row)=tD (lY<|nrQ p L row) from rfl,aIq]) (λz=>nk (of_decide_eq_true<|inj.mpr z)) (by rw[aC];omega) ?_;refine aO<|vP (d:=fdD (t.1.1,row,nrQ p L row)) 5 rfl (pv 5) (pdT (ds:=[.int t.1.1,.tup<|bT row,.tup (bT<|nrQ p L row)])<|aB (pdx (n:=0) (d:=.int t.1.1)<|pdv 6) (aB (pdv 8)<|aB (pdv 9) aM)) (by rw[aC];omega) ?_;refine aX<|aFq (Z:=wtL P w K) (a:=⟨l3,ls2,S'.T⟩) (ds:=[.lst (L.map<|mvD p),.int b,.tup [.int t.1.1,.int t.1.2],.tup<|bT row,.tup (bT<|nrQ p L row)]) 3 rfl (pv 3) GP hr rfl (aB (pdv 0) (aB (pdv 1)<|aB (pdv 6) (aB (pdv 8)<|aB (pdv 9) aM))) ⟨p,L,b,t.1,row,nrQ p L row,hp,by omega,nbo,by omega,okj.nk,by show tot S'.T+_<=_;omega,rfl,rfl⟩ (λa' h=>h.1) rfl λa' h=> ?_;obtain⟨al,als,aT⟩:=a';obtain⟨h1,h2⟩:=h;have h1:al=l3:=h1;have h2:aT=lgQ p L b t.1 row (nrQ p L row) L.length S'.T:=h2;subst h1 h2;have k:=key ⟨lgQ p L b t.1 row (nrQ p L row) L.length S'.T,S'.kn++[nrQ p L row],S'.fd++[(t.1.1,row,nrQ p L row)]⟩ als (if_neg nk).symm;simp only[bK,aW,eF] at k;exact k
   ·rw[<-e2] at pj;refine aX (fD (k:=decide<|(500:Int)<(((S2.fd.map fdD).length:Nat):Int)) (rV aLV (tH rfl zlen (aKE 5 rfl<|pv 5)) (aGu (i:=500) rfl hmt ⟨tm,rfl⟩)<|iH _) (λq=> ?_) λq=>eB ?_)
    ·have q:=of_decide_eq_true q;rw[aC] at q;exact aX (yC (ds:=[.str _]) rfl xk.nw.1 xk.ex (tk (by omega) _) (aB fU aM)<|hZ rfl)
    ·have q:=of_decide_eq_false q;rw[aC] at q;exact⟨[.val<|.lst (L.map<|mvD p),.val<|.int b,.val<|.tup (bT<|st0 p),wtS P w K ⟨l3,ls3,S2.T⟩,oG (hkT P w) K l4 (S2.kn.map lY)<|S2.kn.map λ_=>.bl true,.own l5<|S2.fd.map fdD,.val<|rkD t.1,.val (.lst<|(gA t.2).map p2D),.un,.un],⟨.inr rfl,.inr rfl,.inr rfl,.inr rfl,.inr rfl,.inr rfl,.inr rfl,.inr rfl,.inl rfl,.inl rfl,trivial⟩,S2,ls3,e2,by omega,rfl⟩
  ·obtain⟨S',ls3,eS,f1,rfl⟩:=hn;rw[aC,gD] at eS;subst eS;exact⟨m',[.val<|.lst (L.map<|mvD p),.val<|.int b,.val<|.tup (bT<|st0 p),wtS P w K ⟨l3,ls3,(fdP p L b t.1 S1<|gA t.2).T⟩,oG (hkT P w) K l4 ((fdP p L b t.1 S1<|gA t.2).kn.map lY)<|(fdP p L b t.1 S1<|gA t.2).kn.map λ_=>.bl true,.own l5<|(fdP p L b t.1 S1<|gA t.2).fd.map fdD,.un,.un,.un,.un],gG _,⟨.inr rfl,.inr rfl,.inr rfl,.inr rfl,.inr rfl,.inr rfl,.inl rfl,.inl rfl,.inr rfl,.inr rfl,trivial⟩,fdP p L b t.1 S1<|gA t.2,dn++(gA t.2).map rwP,t.1,ls3,W2,by rw[aN,aC];omega,hR2,f1,rfl⟩
theorem aCx{CN:BF}(F:FI K mg "found_rows" sFd)(zlen:mg "len"=none)(zmin:mg "min"=none)(zlist:mg "list"=none)(zsorted:mg "sorted"=none)(hmt:∃t,mg "MOST_TABLES"=some (.int 500 t))(xk:aNV K mg CN)(GP:pS P w K (wtL P w K) mg base "put_longer_rows" 2 6 aOe):bF P w K mg base "found_rows" 3 3 aIg/\eW P w K mg base "found_rows" 3 3 aIf (.ref CN) [] []:=by
 constructor
 ·refine dC (N:=nl2) (ps:=["moves","bound","start"]) (k:=2) F λf nd cdv A outer s H E hr ds r hl c=> ?_
  obtain⟨p,L,b,hp,S0,FU,rfl,rfl⟩:=c;exact aIc (E:=E) zlen zmin zlist zsorted hmt xk GP hr PassesOwn.never hp S0 FU.b3 (λh=>absurd FU.le<|aLm h) λ_=>rfl
 ·refine aBg (N:=nl2) (ps:=["moves","bound","start"]) (k:=2) F λf nd cdv A outer s H E hr hE ds hl c=> ?_
  obtain⟨p,L,b,hp,S0,⟨b3,g⟩,rfl⟩:=c;exact aIc (E:=E) zlen zmin zlist zsorted hmt xk GP hr PassesOwn.leaving hp S0 b3 (λ_ sd=>uG (sd:=sd) hE) λh=>absurd h<|aLm g
theorem aBP(F:FI K mg "table_from" aCN)(ztuple:mg "tuple"=none):bF P w K mg base "table_from" 1 2 aHX:=by
 have nd2:(["number","every"]:List Str).Nodup:=by decide+kernel
 refine dC (N:=["every","numbers"]) (ps:=["every","numbers"]) (k:=0) F λf nd cdv A outer s H E hr ds r hl c=> ?_
 obtain⟨B,nb,h1,h2,rfl,rfl⟩:=c
 have ec:((bT nb).filter λ_=>true).map (λd=>match d with | .int i=>bP (B.getD i.toNat [])|_=>.non)=(nb.map λi=>B.getD i []).map bP:=by rw[cV.mpr λ_ _=>rfl];unfold bT;rw[aV,aV];rfl
 refine aX (iQ<|kQ rfl ztuple (PEd.bor<|PEd.val (PEd.cast (kJ (ds:=bT nb) (N:=["number","every"]) (M:=["every","numbers"]) (cap:=[none,some 0]) (sc:=aK aCN) (Tb:=λd=>[.val d,.val<|tL B]) (λ_=>true) (λd=>match d with | .int i=>bP (B.getD i.toNat [])|_=>.non) (oW<|pdv 1) (by rw[aBw];omega) rfl (by decide+kernel) rfl (by decide+kernel) rfl (λcl C fp s H d hd=>pgN 0) (λd hd=>⟨.inl rfl,.inr rfl,trivial⟩) (λcl C fp s H d hd=>.inl ⟨rfl,rfl⟩) λcl C2 fp s H d hd _=> ?_)<|by rw[ec])));obtain⟨i,hi,rfl⟩:=aQ.mp hd;exact mZ (n:=i) (PEd.bor<|pdv 1) (pdv 0) (aDT<|h2 i hi) λ_ _=>rfl
abbrev nl3:List Str:=["size","stock","bound","every","found"]
theorem aER{CN:BF}(F:FI K mg "book_of" aIR)(zlen:mg "len"=none)(zrange:mg "range"=none)(ztuple:mg "tuple"=none)(GF:bF P w K mg base "fillings" 2 1 sD)(GM:bF P w K mg base "moves_of" 5 2 aIe)(GR:bF P w K mg base "found_rows" 3 3 aIg/\eW P w K mg base "found_rows" 3 3 aIf (.ref CN) [] [])(GT:bF P w K mg base "table_from" 1 2 aHX):bF P w K mg base "book_of" 6 3 aFM/\eW P w K mg base "book_of" 6 3 tT (.ref CN) [] []:=by
 have nd2:(["price","row","numbers","every"]:List Str).Nodup:=by decide+kernel
 constructor
 ·refine dC (N:=nl3) (ps:=["size","stock","bound"]) (k:=5) F λf nd cdv A outer s H E hr ds r hl c=> ?_
  obtain⟨p,L,b,hp,S,dn,FU,rfl,rfl⟩:=c;have hr2:=hr.mono (show 2<=5 by decide);have hr3:=hr.mono (show 3<=5 by decide);have f9:(bV p).length<=64:=kM hp;have O:=aHJ (p:=p) S.pr FU;have l4:=O.len;refine aO<|qL (ds:=(bV p).map bP) 3 (pdc (ds:=[cJ p]) GF hr2 (aB (pdv 0) aM) ⟨p,hp,rfl,rfl⟩) λl5=>iB 3 rfl ?_;refine aO<|qL (ds:=(bkF p L b).map fdD) 4 (pdc (ds:=[.lst (L.map<|mvD p),.int b,tN<|st0 p]) GR.1 hr3 (aB (PEd.val<|pdc (ds:=[cJ p,lK L]) GM hr (aB (pdv 0)<|aB (pdv 1) aM) ⟨p,L,hp,S,dn,rfl,rfl⟩) (aB (pdv 2)<|aB (sC (n:=(bV p).length) rfl ztuple rfl zrange (PEd.ic (tH rfl zlen (PEd.bor<|pdv 3))<|by rw[aC])<|by omega) aM)) ⟨p,L,b,hp,S,FU,rfl,rfl⟩) λl4=>iB 4 rfl ?_
  have ec:(((bkF p L b).map fdD).filter λ_=>true).map (λd=>enD ((unE d).1,(unE d).2.1,jC p (unE d).2.2))=(bkQ p L b).map enD:=by
   rw[cV.mpr λ_ _=>rfl,aV];unfold bkQ;rw[aV];refine cF λe _=> ?_
   show enD ((unE<|fdD e).1,(unE<|fdD e).2.1,jC p (unE<|fdD e).2.2)=_;rw[aIU];rfl
  refine aX<|eJ (PEd.cast (kJ (ds:=(bkF p L b).map fdD) (N:=["price","row","numbers","every"]) (M:=nl3) (cap:=[none,none,none,some 3]) (sc:=aK aIR) (Tb:=λd=>[.val<|.int (unE d).1,.val (.tup<|bT (unE d).2.1),.val (.tup<|bT (unE d).2.2),.val (tL<|bV p)]) (λ_=>true) (λd=>enD ((unE d).1,(unE d).2.1,jC p (unE d).2.2)) (jJ<|pdv 4) (by rw[aC];omega) rfl (by decide+kernel) rfl (by decide+kernel) rfl (λcl C fp s H d hd=> ?_) (λd hd=>⟨.inl rfl,.inl rfl,.inl rfl,.inr rfl,trivial⟩) (λcl C fp s H d hd=>.inl ⟨rfl,rfl⟩) λcl C2 fp s H d hd _=> ?_)<|by rw[ec]) trivial rfl
  ·obtain⟨e,he,rfl⟩:=aQ.mp hd;rw[aIU];exact lO (ds:=[.int e.1,tN e.2.1,tN e.2.2]) (js:=[0,1,2]) rfl (eZ (pgn 0) (eZ (pgn 1)<|eZ (pgn 2) lG)) rfl rfl
  ·obtain⟨e,he,rfl⟩:=aQ.mp hd;rw[aIU];obtain⟨h1,h2,h3,h4,h5⟩:=O.ent e he;have nbo:=(aCF hp (λs hs=>(S.st s hs).1) h1).1;rw[<-h4] at nbo;exact pdT (ds:=[.int e.1,tN e.2.1,.tup<|(jC p e.2.2).map bP])<|aB (pdv 0) (aB (pdv 1)<|aB (pdc (ds:=[tL<|bV p,tN e.2.2]) GT hr (aB (pdv 3)<|aB (pdv 2) aM) ⟨bV p,e.2.2,by rw[nbo.1];omega,nbo.2,rfl,rfl⟩) aM)
 ·refine aBg (N:=nl3) (ps:=["size","stock","bound"]) (k:=5) F λf nd cdv A outer s H E hr hE ds hl c=> ?_
  obtain⟨p,L,b,hp,S,dn,g,rfl⟩:=c;have hr2:=hr.mono (show 2<=5 by decide);have hr3:=hr.mono (show 3<=5 by decide);have f9:(bV p).length<=64:=kM hp;refine aO<|qL (ds:=(bV p).map bP) 3 (pdc (ds:=[cJ p]) GF hr2 (aB (pdv 0) aM) ⟨p,hp,rfl,rfl⟩) λl5=>iB 3 rfl ?_;exact aO<|uH 4 nd rfl (Or.inl rfl) (zR (ds:=[.lst (L.map<|mvD p),.int b,tN<|st0 p]) (dds:=[]) GR.2 rfl hr3 rfl (aB (PEd.val<|pdc (ds:=[cJ p,lK L]) GM hr (aB (pdv 0)<|aB (pdv 1) aM) ⟨p,L,hp,S,dn,rfl,rfl⟩) (aB (pdv 2)<|aB (sC (n:=(bV p).length) rfl ztuple rfl zrange (PEd.ic (tH rfl zlen (PEd.bor<|pdv 3))<|by rw[aC])<|by omega) aM)) (λ_=>RepL.nil) ⟨p,L,b,hp,S,g,rfl⟩ rfl<|rS hE)
def aIm:List D->R->Prop:=λds r=>∃p L row ws,p∈bW/\StkOk p L/\(∀t∈row,t<L.length)/\Fil p ws/\ds=[cJ p,.lst<|L.map skD,.tup<|bT row,bP ws]/\r=.val (bP<|gN p L row ws)
theorem aGR(F:FI K mg "row_on" aHZ)(GS:bF P w K mg base "step_on" 3 3 zT):bF P w K mg base "row_on" 4 4 aIm:=by
 refine dC (N:=["size","stock","row","filling","made","number"]) (ps:=["size","stock","row","filling"]) (k:=3) F λf nd cdv A outer s H E hr ds r hl c=> ?_
 obtain⟨p,L,row,ws,hp,S,hrow,G,rfl,rfl⟩:=c;refine aO<|iD 4 nd rfl (Or.inl rfl) (pdv 3) ?_;refine aO<|qO (ds:=bT row) (λt=>[.val<|cJ p,.val<|lK L,.val<|tN row,.val<|bP ws,.val (bP<|gN p L (row.take t) ws),.un]) (λt=>[.val<|cJ p,.val<|lK L,.val<|tN row,.val<|bP ws,.val (bP<|gN p L (row.take t) ws),.val<|.int ((row.getD t 0:Nat):Int)]) (oW<|pdv 2) ⟨.inr rfl,.inr rfl,.inr rfl,.inr rfl,.inr rfl,.inr rfl,trivial⟩ (λt d hd=> ?_) (λt d hd=> ?_) ?_
 ·obtain⟨_,rfl⟩:=aDP hd;exact pgN 5
 ·obtain⟨ht,rfl⟩:=aDP hd;have hn:=hrow (row.getD t 0)<|DL.getD_mem ht;have G1:=nN S (row.take t) ws (λu hu=>hrow u<|List.take_subset _ _ hu) G;refine aX<|lE (d:=bP<|gN p L (row.take<|t+1) ws) 4 (pdc (ds:=[cJ p,sqD (L.getD (row.getD t 0) AQ).1,bP<|gN p L (row.take t) ws]) GS hr (aB (pdv 0) (aB (pdx (n:=0) (ds:=[sqD (L.getD (row.getD t 0) AQ).1,.int (L.getD (row.getD t 0) AQ).2])<|mZ (PEd.bor<|pdv 1) (pdv 5) (aIh hn) λ_ _=>rfl)<|aB (pdv 4) aM)) ⟨p,_,_,_,_,_,aIx (S.st _<|DL.getD_mem hn).1 G1,rfl,by rw[aGx ht,aEG];rfl⟩) ?_;exact⟨.inr rfl,.inr rfl,.inr rfl,.inr rfl,.inr rfl,.inl rfl,trivial⟩
 ·refine aX<|eJ (pdv 4) trivial ?_;show R.val (bP<|gN p L (row.take (bT row).length) ws)=_;rw[show(bT row).length=row.length from aC _,gD]
abbrev nl4:List Str:=["size","stock","row"]
theorem aFY(F:FI K mg "table_of" aDa)(ztuple:mg "tuple"=none)(GF:bF P w K mg base "fillings" 2 1 sD)(GR:bF P w K mg base "row_on" 4 4 aIm):bF P w K mg base "table_of" 5 3 aDl:=by
 refine dC (N:=nl4) (ps:=nl4) (k:=4) F λf nd cdv A outer s H E hr ds r hl c=> ?_
 obtain⟨p,L,row,hp,S,hrow,rfl,rfl⟩:=c;have nd2:(["filling","size","stock","row"]:List Str).Nodup:=by decide+kernel
 have f9:=kM hp;have fp:∀w∈gO (2^p.1.toNat) p.2.toNat,Fil p w:=λw hw=>lJ hp hw
 have et:tabQ p L row=(gO (2^p.1.toNat) p.2.toNat).map λws=>gN p L row ws:=rfl
 rw[et];refine aX<|iQ (kQ rfl ztuple<|PEd.bor (PEd.val<|PEd.cast (pdC (ds:=(gO (2^p.1.toNat) p.2.toNat).map bP) (N:=["filling","size","stock","row"]) (M:=nl4) (cap:=[none,some 0,some 1,some 2]) (sc:=aK aDa) (Tb:=λd=>[.val d,.val<|cJ p,.val<|lK L,.val<|tN row]) (λ_=>true) (λd=>bP (gN p L row<|kA d)) (jJ (PEd.val<|pdc (ds:=[cJ p]) GF hr (aB (pdv 0) aM) ⟨p,hp,rfl,rfl⟩)) (by rw[aC];omega) (λcl C fp s H d hd=>.inl ⟨rfl,rfl⟩) λcl C fp2 s H d hd _=> ?_) (?_:_=R.own (((gO (2^p.1.toNat) p.2.toNat).map λws=>gN p L row ws).map bP))))
 ·obtain⟨ws,hw,rfl⟩:=wN hd;rw[gW];exact pdc (ds:=[cJ p,lK L,tN row,bP ws]) GR hr (aB (pdv 1)<|aB (pdv 2) (aB (pdv 3)<|aB (pdv 0) aM)) ⟨p,L,row,ws,hp,S,hrow,fp ws hw,rfl,rfl⟩
 ·rw[cV.mpr λ_ _=>rfl,aV,aV];congr 1;refine cF λws _=> ?_
  show bP (gN p L row (kA<|bP ws))=_;rw[gW];rfl
theorem aHn(F:FI K mg "boxes_looked_at" aHL)(zlist:mg "list"=none)(zrange:mg "range"=none):bF P w K mg base "boxes_looked_at" 1 2 aCX:=by
 refine dC (N:=["size","looked"]) (ps:=["size","looked"]) (k:=0) F λf nd cdv A outer s H E hr ds r hl c=> ?_
 obtain⟨p,o,hp,rfl,rfl⟩:=c;obtain⟨h1,h2,h3,h4,h5⟩:=vZ p hp;have e2:p.2=((p.2.toNat:Nat):Int):=by omega
 cases o with
 |none=>exact aO<|pX (tS (d:=.non) (pdv 1) kU) rfl (aX<|eJ (PEd.cast (pY (n:=p.2.toNat) rfl zlist rfl zrange (PEd.ic (pdx (n:=1) (d:=.int p.2)<|pdv 0) e2)<|by omega)<|by rw[oM];rfl) trivial rfl)
 |some l=>refine aO (qA (tS (d:=.lst<|bT l) (pdv 1) kU) rfl<|eB ?_);exact aX (iQ<|wX rfl zlist (PEd.bor<|pdv 1))
theorem aCd(F:FI K mg "words_in" tZ):bF P w K mg base "words_in" 1 2 aAS:=by
 refine dC (N:=["boxes","filling"]) (ps:=["boxes","filling"]) (k:=0) F λf nd cdv A outer s H E hr ds r hl c=> ?_
 obtain⟨bs,ws,hb,hw,rfl,rfl⟩:=c;have nd2:(["box","filling"]:List Str).Nodup:=by decide+kernel
 refine aX<|eJ (PEd.cast (pdC (ds:=bT bs) (N:=["box","filling"]) (M:=["boxes","filling"]) (cap:=[none,some 1]) (sc:=aK tZ) (Tb:=λd=>[.val d,.val<|bP ws]) (λ_=>true) (λd=>match d with | .int i=>D.int (ws.getD i.toNat 0)|_=>.non) (jJ<|pdv 0) (by unfold bT;rw[aC];omega) (λcl C fp s H d hd=>.inl ⟨rfl,rfl⟩) λcl C fp s H d hd _=> ?_) ?_) trivial rfl
 ·obtain⟨b,hb2,rfl⟩:=aQ.mp hd;have:=hw b hb2;exact vJ (n:=b) (d:=.int<|ws.getD b 0) (pdv 1) (pdv 0) (by simp[cK,this]) λ_ _=>rfl
 ·rw[cV.mpr λ_ _=>rfl];unfold bT;rw[aV,aV];rfl
abbrev nl5:List Str:=["row","place","many"]
theorem aBM(F:FI K mg "is_window" aHT)(zlen:mg "len"=none):bF P w K mg base "is_window" 1 3 aFS:=by
 refine dC (N:=nl5) (ps:=nl5) (k:=0) F λf nd cdv A outer s H E hr ds r hl c=> ?_
 obtain⟨row,a,b,rfl,rfl⟩:=c;exact aX (iQ<|aDb (k:=decide<|0<=a) (j:=decide (1<=b)&&decide (a+b<=(row.length:Int))) (aIN (g:=λi j=>decide<|j<=i) aJa (pdv 1) cE<|iH _) λ_=>aDb (k:=decide<|1<=b) (j:=decide<|a+b<=(row.length:Int)) (aIN (g:=λi j=>decide<|j<=i) aJa (pdv 2) cE<|iH _) λ_=>aIo (aIN (g:=λi j=>decide<|i<=j) aLB (fY iG (pdv 1)<|pdv 2) (PEd.ic (aKg rfl zlen<|pdv 0)<|by unfold bT;rw[aC])<|iH _))
theorem aCm(F:FI K mg "words_told" aDs)(ztuple:mg "tuple"=none)(GW:bF P w K mg base "words_in" 1 2 aAS):bF P w K mg base "words_told" 2 2 aDc:=by
 refine dC (N:=["boxes","table"]) (ps:=["boxes","table"]) (k:=1) F λf nd cdv A outer s H E hr ds r hl c=> ?_
 obtain⟨p,bs,T,hp,lb,hb,O,rfl,rfl⟩:=c;have f9:(bV p).length<=64:=kM hp
 have ec:((T.map bP).filter λ_=>true).map (λd=>bP (wdQ bs<|kA d))=(T.map<|wdQ bs).map bP:=by
  rw[cV.mpr λ_ _=>rfl,aV,aV];refine cF λf _=> ?_
  show bP (wdQ bs (kA<|bP f))=_;rw[gW];rfl
 refine aX<|eJ (PEd.cast (kJ (ds:=T.map bP) (N:=["filling","boxes"]) (M:=["boxes","table"]) (cap:=[none,some 0]) (sc:=aK aDs) (Tb:=λd=>[.val d,.val (.lst<|bT bs)]) (λ_=>true) (λd=>bP (wdQ bs<|kA d)) (oW<|pdv 1) (by rw[aC,O.len];omega) rfl (by decide+kernel) rfl (by decide+kernel) rfl (λcl C fp s H d _=>aAW 0 (qI (i:=0) (show(["filling","boxes"]:List Str).Nodup by decide+kernel) rfl<|Or.inl rfl)) (λd _=>⟨.inl rfl,.inr rfl,trivial⟩) (λcl C fp s H d hd=>.inl ⟨rfl,rfl⟩) λcl C fp s H d hd _=> ?_)<|by rw[ec]) trivial rfl;obtain⟨f,hf,rfl⟩:=wN hd;have G:=O.fil f hf;rw[gW];exact kQ rfl ztuple<|PEd.bor (PEd.val<|pdc (ds:=[.lst<|bT bs,bP f]) (r:=.own<|(wdQ bs f).map D.int) GW hr (aB (pdv 1)<|aB (pdv 0) aM) ⟨bs,f,lb,λb h=>by rw[G.len];exact hb b h,rfl,rfl⟩)
theorem aGa(F:FI K mg "fillings_by_words" aPA)(zenumerate:mg "enumerate"=none)(GF:bF P w K mg base "fillings" 2 1 sD):bF P w K mg base "fillings_by_words" 3 2 (aOr P w K):=by
 refine dC (N:=["size","words","gathered","number","filling"]) (ps:=["size","words"]) (k:=2) F λf nd cdv A outer s H E hr ds r hl c=> ?_
 obtain⟨p,h,hp,rfl,rfl⟩:=c;have f9:(bV p).length<=64:=kM hp;have hu:=uN hr 1;refine aO<|yU 2 nd rfl (Or.inl rfl) λl=> ?_;refine aO<|mJ (ds:=lI<|(bV p).map bP) (λt sd=>∃ls,sd=[.val<|cJ p,.val (tL<|(bV p).map h),odG P w K l ((iX<|((bV p).take t).map h).map kY) ls<|mU h ((bV p).take t) (iX<|((bV p).take t).map h),.un,.un]) (qG rfl zenumerate (PEd.val<|pdc (ds:=[cJ p]) GF hr (aB (pdv 0) aM) ⟨p,hp,rfl,rfl⟩)) ⟨_,Le.refl _,[],rfl⟩ (λt d sdk hd hk=> ?_) λsdn hn=> ?_
 ·obtain⟨x,e1,rfl⟩:=mH hd;obtain⟨ht,rfl⟩:=oC e1;obtain⟨ls,rfl⟩:=hk;have ew:(((bV p).map h).map bP)[t]? =some (bP (h<|(bV p).getD t [])):=by simp[cK,ht]
  have et:(bV p).take (t+1)=(bV p).take t++[(bV p).getD t []]:=yD [] ht;have tl:((bV p).take t).length<=64:=cD (List.length_take_le' _ _) f9;refine⟨[.val<|cJ p,.val (tL<|(bV p).map h),odG P w K l ((iX<|((bV p).take t).map h).map kY) ls<|mU h ((bV p).take t) (iX<|((bV p).take t).map h),.val<|.int (t:Int),.val (bP<|(bV p).getD t [])],lO (js:=[3,4]) rfl (eZ (pgn 3)<|eZ (pgn 4) lG) rfl rfl, ?_⟩;have pred:∀k',k'∈iX (((bV p).take t).map h)↔k'∈((bV p).take t).map h:=λk'=>aBl
  have ndk:=uV<|((bV p).take t).map h;have es:iX (((bV p).take<|t+1).map h)=oB (iX<|((bV p).take t).map h) (h<|(bV p).getD t []):=by rw[et,bK];exact aFg _ _
  have kl:(iX<|((bV p).take t).map h).length<=64:=by refine cD (aGw _) ?_;rw[aC];exact tl
  refine aX<|xT 2 (k:=kY (h<|(bV p).getD t [])) (d:=bP<|(bV p).getD t []) hu rfl (pv 2) (PEd.cast (mZ (n:=t) (d:=bP (h<|(bV p).getD t [])) (PEd.bor<|pdv 1) (pdv 3) ew λ_ _=>rfl)<|by rw[aPc]) (λz=>(pdv 4)) (by unfold mU;rw[aC];omega) (λds hds=> ?_) (λn ds hk2 hd2=> ?_) λhk2 a=> ?_
  ·obtain⟨k',_,rfl⟩:=aQ.mp hds;rw[aC];exact cD (jV _ _)<|by omega
  ·rw[aZ] at hk2;obtain⟨k',q1,q2⟩:=eO.mp hk2;have q3:=aHz q2;subst q3;refine⟨[.val<|cJ p,.val (tL<|(bV p).map h),odG P w K l ((iX<|((bV p).take<|t+1).map h).map kY) ls<|mU h ((bV p).take<|t+1) (iX<|((bV p).take<|t+1).map h),.un,.un],⟨.inr rfl,.inr rfl,.inr ?_,.inl rfl,.inl rfl,trivial⟩,ls,rfl⟩;show odG P w K l _ ls _=_;rw[es,show oB (iX<|((bV p).take t).map h) (h<|(bV p).getD t [])=iX (((bV p).take t).map h) from if_pos (aY q1),et,<-aKf ndk q1 hd2]
  ·have nm:h ((bV p).getD t [])∉iX (((bV p).take t).map h):=λhm=>hk2 (aQ.mpr ⟨_,hm,rfl⟩)
   refine⟨[.val<|cJ p,.val (tL<|(bV p).map h),odG P w K l ((iX<|((bV p).take<|t+1).map h).map kY) (ls++[a])<|mU h ((bV p).take<|t+1) (iX<|((bV p).take<|t+1).map h),.un,.un],⟨.inr rfl,.inr rfl,.inr ?_,.inl rfl,.inl rfl,trivial⟩,ls++[a],rfl⟩;show odG P w K l _ (ls++[a]) _=_;rw[es,show oB (iX<|((bV p).take t).map h) (h<|(bV p).getD t [])=iX (((bV p).take t).map h)++[h<|(bV p).getD t []] from if_neg nm,et,bK,<-aJY nm λg hg=>(pred _).mpr<|aQ.mpr ⟨g,hg,rfl⟩];rfl
 ·obtain⟨ls,rfl⟩:=hn;rw[kP,aC,gD];exact aX<|aGg 2 rfl (pv 2) (λv F H g=>⟨l,ls,rfl,g⟩) rfl
abbrev nl6:List Str:=["size","stock","row","place","many","looked","boxes","ahead","alike","words","every"]
abbrev nl7:List Str:=["size","stock","row","place","many","looked"]
abbrev nl8:List Str:=["number","filling","alike","words","ahead"]
theorem aEU(F:aHw #[.none] K "wish_at" "wish_at" aLt f fd)(zlist:mg "list"=none)(zenumerate:mg "enumerate"=none)(hm:mg "wish_at"=some (.ref f))(GI:bF P w K mg base "is_window" 1 3 aFS)(GB:bF P w K mg base "boxes_looked_at" 1 2 aCX)(GT:bF P w K mg base "table_of" 5 3 aDl)(GW:bF P w K mg base "words_told" 2 2 aDc)(GG:bF P w K mg base "fillings_by_words" 3 2 (aOr P w K))(GF:bF P w K mg base "fillings" 2 1 sD):CalleeE [.none] P w K mg base "wish_at" 6 6 aLp:=by
 have nd:nl6.Nodup:=by decide+kernel
 refine aDC (N:=nl6) (ps:=nl7) (k:=5) F ⟨rfl,rfl,rfl,nd,rfl,by decide+kernel,by decide+kernel⟩ hm (λs T o nn _ _ _ _ _ _ us hT hS hl=>match us,hl with | [_,_,_,_,_,_],_=>BindsTo.of_defaults rfl hT hS rfl rfl) (λs T o nn _ _ _ _ _ _ us hT hS hl=>match us,hl with | [_,_,_,_,_],_=>BindsTo.of_defaults rfl hT hS rfl rfl) λcdv A outer s H E hr ds r hl c=> ?_
 obtain⟨p,L,row,pl,mn,o,hp,S,hrow,rl,w1,w2,hlk,rfl,rfl⟩:=c;have f9:(bV p).length<=64:=kM hp;have hu:=uN hr 4;obtain⟨lb,hb⟩:=aOv hp hlk;have r1:∀t∈row.take pl,t<L.length:=λt ht=>hrow t<|dQ ht
 have r2:∀t∈row.drop (pl+mn),t<L.length:=λt ht=>hrow t<|dP ht
 have r3:∀t∈row.drop pl,t<L.length:=λt ht=>hrow t<|dP ht
 refine aKX (oO (k:=true) (fZ<|pdc (ds:=[tN row,.int (pl:Int),.int (mn:Int)]) (r:=.val<|.bl true) GI hr (aB (pdv 2) (aB (pdv 3)<|aB (pdv 4) aM)) ⟨row,pl,mn,rfl,by rw[aMg w1 w2]⟩)) ?_;refine aO<|qL (ds:=bT<|bxQ p.2.toNat o) 6 (pdc (ds:=[cJ p,lkD o]) GB hr (aB (pdv 0)<|aB (pdv 5) aM) ⟨p,o,hp,rfl,rfl⟩) λl6=>iB 6 rfl ?_;generalize bxQ p.2.toNat o=bs at lb hb;refine aO<|lE (d:=.tup<|(tabQ p L<|row.take pl).map bP) 7 (pdc (ds:=[cJ p,lK L,tN<|row.take pl]) GT hr (aB (pdv 0) (aB (pdv 1)<|aB (PEd.cast (aGY (k:=pl) (pdv 2)<|pdv 3)<|by rw[aET]) aM)) ⟨p,L,_,hp,S,r1,rfl,rfl⟩) ?_;obtain⟨h,hh⟩:∃h,h=(λg=>wdQ bs<|gN p L (row.drop<|pl+mn) g):=⟨_,rfl⟩
 have e1:(tabQ p L (row.drop<|pl+mn)).map (wdQ bs)=(bV p).map h:=by rw[hh];unfold tabQ;rw[aV];rfl
 refine aO<|aFk (ks:=(iX<|(bV p).map h).map kY) (dss:=mU h (bV p) (iX<|(bV p).map h)) 8 nd rfl (Or.inr rfl) (pdc (ds:=[cJ p,tL<|(bV p).map h]) GG hr (aB (pdv 0)<|aB (PEd.cast (PEd.val<|pdc (ds:=[.lst<|bT bs,.tup<|(tabQ p L (row.drop<|pl+mn)).map bP]) GW hr (aB (pdv 6)<|aB (pdc (ds:=[cJ p,lK L,tN (row.drop<|pl+mn)]) GT hr (aB (pdv 0) (aB (pdv 1)<|aB (PEd.cast (aBs (k:=pl+mn) (pdv 2) (PEd.ic (fY iG (pdv 3)<|pdv 4)<|by push_cast;rfl))<|by rw[yI]) aM)) ⟨p,L,_,hp,S,r2,rfl,rfl⟩) aM) ⟨p,bs,_,hp,lb,hb,aHB hp S r2,rfl,rfl⟩)<|by rw[e1]) aM) ⟨p,h,hp,rfl,rfl⟩) ?_;refine aO<|qL (ds:=((tabQ p L<|row.drop pl).map<|wdQ bs).map bP) 9 (pdc (ds:=[.lst<|bT bs,.tup<|(tabQ p L<|row.drop pl).map bP]) GW hr (aB (pdv 6)<|aB (pdc (ds:=[cJ p,lK L,tN<|row.drop pl]) GT hr (aB (pdv 0) (aB (pdv 1)<|aB (PEd.cast (aBs (k:=pl) (pdv 2)<|pdv 3)<|by rw[yI]) aM)) ⟨p,L,_,hp,S,r3,rfl,rfl⟩) aM) ⟨p,bs,_,hp,lb,hb,aHB hp S r3,rfl,rfl⟩) λl9=>iB 9 rfl ?_;refine aO<|qL (ds:=(bV p).map bP) 10 (pdc (ds:=[cJ p]) GF hr (aB (pdv 0) aM) ⟨p,hp,rfl,rfl⟩) λl10=>iB 10 rfl ?_
 have ec:((lI<|(bV p).map bP).filter λ_=>true).map (enF λg=>wsD<|wnQ p L row pl mn bs g)=(waQ p L row pl mn bs).map wsD:=by rw[cV.mpr λ_ _=>rfl,aJJ p λg=>wsD<|wnQ p L row pl mn bs g];unfold waQ;rw[aV];rfl
 have sh:∀d∈lI ((bV p).map bP),∃t:Nat,t<(bV p).length/\d=.tup [.int (t:Int),bP<|(bV p).getD t []]:=λd hd=>by obtain⟨t,ht⟩:=dO hd;obtain⟨x,q1,q2⟩:=mH ht;obtain⟨q3,rfl⟩:=oC q1;exact⟨t,q3,q2⟩
 refine aX<|eJ (PEd.cast (kJ (ds:=lI<|(bV p).map bP) (N:=nl8) (M:=nl6) (cap:=[none,none,some 8,some 9,some 7]) (sc:=aK aLt) (Tb:=λd=>match d with | .tup [a,b]=>[.val a,.val b,odF P w K ((iX<|(bV p).map h).map kY)<|(mU h (bV p) (iX<|(bV p).map h)).map D.lst,.val<|tL ((tabQ p L<|row.drop pl).map<|wdQ bs),.val (.tup<|(tabQ p L<|row.take pl).map bP)] | _=>[.un,.un,.un,.un,.un]) (λ_=>true) (enF λg=>wsD<|wnQ p L row pl mn bs g) (qG rfl zenumerate<|pdv 10) (by rw[kP,aC];omega) rfl (by decide+kernel) rfl (by decide+kernel) rfl (λcl C fp s H d hd=> ?_) (λd hd=> ?_) (λcl C fp s H d hd=>.inl ⟨rfl,rfl⟩) λcl C fp s H d hd _=> ?_)<|by rw[ec]) trivial rfl
 ·obtain⟨t,ht,rfl⟩:=sh d hd;exact lO (js:=[0,1]) rfl (eZ (qI (i:=0) (show nl8.Nodup by decide+kernel) rfl<|Or.inl rfl)<|eZ (qI (i:=1) (show nl8.Nodup by decide+kernel) rfl<|Or.inl rfl) lG) rfl rfl
 ·obtain⟨t,ht,rfl⟩:=sh d hd;exact⟨.inl rfl,.inl rfl,.inr rfl,.inr rfl,.inr rfl,trivial⟩
 ·obtain⟨t,ht,rfl⟩:=sh d hd;have G:Fil p ((bV p).getD t []):=lJ hp (getD_mem (d:=[]) ht)
  have ew:(((tabQ p L<|row.drop pl).map<|wdQ bs).map bP)[t]? =some (bP<|wdQ bs (gN p L (row.drop pl)<|(bV p).getD t [])):=by unfold tabQ;rw[aZ,aZ,aZ];show(((bV p)[t]?.map _).map _).map _=_;simp[cK,ht]
  show PEd _ _ _ (.val<|wsD (wnQ p L row pl mn bs<|kA (bP<|(bV p).getD t [])));rw[gW];generalize (bV p).getD t []=u at G ew;have dT:=rE (tabQ p L<|row.take pl);refine aDg (k:=decide<|u∈tabQ p L (row.take pl)) (PTd.cast (aHc (pdv 1) (pdv 4) (qP _) (wV _)<|by show(A.deeper _).units+1+_<AS;omega)<|by rw[aBu]) (λq=> ?_) λq=> ?_
  ·have hm2:=of_decide_eq_true q;have e3:wnQ p L row pl mn bs u=some (sS h (bV p) (wdQ bs<|gN p L (row.drop pl) u)):=by rw[hh];exact if_pos hm2
   rw[e3];have Gm:=nN S ((row.drop pl).take mn) u (λt ht=>r3 t<|dQ ht) G
   have mk:wdQ bs (gN p L (row.drop pl) u)∈iX ((bV p).map h):=by rw[aBl,hh];refine aQ.mpr ⟨gN p L ((row.drop pl).take mn) u,tR Gm.len Gm.wd, ?_⟩;show wdQ bs _=_;rw[<-aBi,<-vD]
   obtain⟨n,hn⟩:=dO mk;exact PEd.val<|wX rfl zlist (PEd.bor<|aGb 2 (k:=kY (wdQ bs<|gN p L (row.drop pl) u)) (n:=n) (d:=tL<|sS h (bV p) (wdQ bs<|gN p L (row.drop pl) u)) (by show(A.deeper _).units+1<AS;omega) rfl (pv 2) (PEd.cast (mZ (n:=t) (d:=bP (wdQ bs<|gN p L (row.drop pl) u)) (PEd.bor<|pdv 3) (pdv 0) ew λ_ _=>rfl)<|by rw[aPc]) (aGA<|uV _) (by rw[aZ,hn];rfl) (by unfold mU;rw[aZ,aZ,hn];rfl) λ_ _=>rfl)
  ·rw[show wnQ p L row pl mn bs u=none from if_neg (of_decide_eq_false q)];exact kU
theorem aEL{CN:BF}(F:aHw #[.none] K "wish_at" "wish_at" aLt f fd)(xk:Xw8 K mg CN)(hm:mg "wish_at"=some (.ref f))(GI:bF P w K mg base "is_window" 1 3 aFS):eW P w K mg base "wish_at" 2 6 pO (.ref CN) [] []:=by
 have nd:nl6.Nodup:=by decide+kernel
 refine uP (N:=nl6) (ps:=nl7) (k:=1) F ⟨rfl,rfl,rfl,nd,rfl,by decide+kernel,by decide+kernel⟩ hm (λs T o nn _ _ _ _ _ _ us hT hS hl=>match us,hl with | [_,_,_,_,_,_],_=>BindsTo.of_defaults rfl hT hS rfl rfl) λcdv A outer s H E hr hE ds hl c=> ?_
 obtain⟨p,L,row,a,b,dl,rfl,hw⟩:=c;refine aO (fD (k:=true) (PTd.cast (oO (k:=aFF row a b) (fZ<|pdc (ds:=[tN row,.int a,.int b]) GI hr (aB (pdv 2) (aB (pdv 3)<|aB (pdv 4) aM)) ⟨row,a,b,rfl,rfl⟩))<|by rw[hw];rfl) (λ_=> ?_) λh=>by cases h);exact aX (yC (ds:=[.str "no such window of the row"]) rfl xk.nw.1 xk.ex (uG hE) (aB fU aM)<|by decide)
theorem aGc{CN:BF}(F:FID K mg "wish_at" aLt)(zlist:mg "list"=none)(zenumerate:mg "enumerate"=none)(xk:Xw8 K mg CN)(GI:bF P w K mg base "is_window" 1 3 aFS)(GB:bF P w K mg base "boxes_looked_at" 1 2 aCX)(GT:bF P w K mg base "table_of" 5 3 aDl)(GW:bF P w K mg base "words_told" 2 2 aDc)(GG:bF P w K mg base "fillings_by_words" 3 2 (aOr P w K))(GF:bF P w K mg base "fillings" 2 1 sD):CalleeE [.none] P w K mg base "wish_at" 6 6 aLp/\eW P w K mg base "wish_at" 2 6 pO (.ref CN) [] []:=by obtain⟨f,fd,hm,F⟩:=F;exact⟨aEU F zlist zenumerate hm GI GB GT GW GG GF,aEL F xk hm GI⟩
abbrev nl9:List Str:=["size","wish","table"]
theorem aEq(F:FI K mg "misses_at" aMa)(zenumerate:mg "enumerate"=none)(GF:bF P w K mg base "fillings" 2 1 sD):bF P w K mg base "misses_at" 3 3 aLE:=by
 refine dC (N:=["size","wish","table","number","filling"]) (ps:=nl9) (k:=2) F λf nd cdv A outer s H E hr ds r hl c=> ?_
 obtain⟨p,w,T,hp,W,OT,rfl,rfl⟩:=c;have hu:=uN hr 4;refine aO<|mJ (ds:=lI<|(bV p).map bP) (λk sd=>(∀j,j<k->aNP w T j=false)/\sd=[.val<|cJ p,.val (.lst<|w.map wsD),.val (.tup<|T.map bP),.un,.un]) (qG rfl zenumerate (PEd.val<|pdc (ds:=[cJ p]) GF hr (aB (pdv 0) aM) ⟨p,hp,rfl,rfl⟩)) ⟨_,Le.refl _,λj hj=>by omega,rfl⟩ (λk d sdk hd hk=> ?_) λsdn hn=> ?_
 ·obtain⟨x,hx,rfl⟩:=mH hd;obtain⟨hk2,rfl⟩:=oC hx;obtain⟨hn,rfl⟩:=hk;have kT:k<T.length:=by rw[OT.len];exact hk2
  have kW:k<w.length:=by rw[W.len];exact hk2
  refine⟨[.val<|cJ p,.val (.lst<|w.map wsD),.val (.tup<|T.map bP),.val<|.int (k:Int),.val (bP<|(bV p).getD k [])],lO (js:=[3,4]) rfl (eZ (pgn 3)<|eZ (pgn 4) lG) rfl rfl, ?_⟩;refine aX<|fD (k:=aNP w T k) ?_ (λh=> ?_) λh=>eB ?_
  ·have ka:=aOD kW;unfold aNP;cases hq:w.getD k none with
   |none=>rw[hq] at ka;exact PWd.pt<|qQ (k:=false) (j:=false) (aBt (d:=.non) (mZ (n:=k) (d:=.non) (PEd.bor<|pdv 1) (pdv 3) ka λ_ _=>rfl) kU) λh=>by cases h
   |some L=>rw[hq] at ka;exact PWd.pt<|qQ (k:=true) (j:= !decide (T.getD k []∈L)) (aBt (d:=tL L) (mZ (n:=k) (d:=tL L) (PEd.bor<|pdv 1) (pdv 3) ka λ_ _=>rfl) kU) λ_=>uW (PTd.cast (aBm (d:=bP<|T.getD k []) (ds:=L.map bP) (vJ (n:=k) (pdv 2) (pdv 3) (aDT kT) λ_ _=>rfl) (mZ (n:=k) (d:=tL L) (PEd.bor<|pdv 1) (pdv 3) ka λ_ _=>rfl) (qP _) (wV L)<|by have:=rE L;show(A.deeper _).units+1+_<AS;omega)<|by rw[aBu])
  ·refine aX<|eJ (pdv 4) trivial ?_;show R.val _=R.val (aNE<|uZ w (bV p) T);rw[show uZ w (bV p) T=some ((bV p).getD k []) from aCb hk2 h hn];rfl
  ·refine⟨[.val<|cJ p,.val (.lst<|w.map wsD),.val (.tup<|T.map bP),.un,.un],⟨.inr rfl,.inr rfl,.inr rfl,.inl rfl,.inl rfl,trivial⟩,λj hj=> ?_,rfl⟩
   by_cases q:j<k
   ·exact hn j q
   ·have:j=k:=by omega
    subst this;exact h
 ·obtain⟨hn,rfl⟩:=hn;rw[kP,aC] at hn;refine aX<|eJ kU trivial ?_;show R.val _=R.val (aNE<|uZ w (bV p) T);rw[show uZ w (bV p) T=none from aBO hn];rfl
theorem aJM(F:FI K mg "does_wish" aLG)(GM:bF P w K mg base "misses_at" 3 3 aLE):bF P w K mg base "does_wish" 4 3 aLS:=by
 refine dC (N:=nl9) (ps:=nl9) (k:=3) F λf nd cdv A outer s H E hr ds r hl c=> ?_
 obtain⟨p,w,T,hp,W,OT,rfl,rfl⟩:=c;exact aX<|eJ (PEd.cast (aMf (pdc (ds:=[cJ p,.lst<|w.map wsD,.tup<|T.map bP]) GM hr (aB (pdv 0) (aB (pdv 1)<|aB (pdv 2) aM)) ⟨p,w,T,hp,W,OT,rfl,rfl⟩) kU)<|by rw[aJk]) trivial rfl
theorem aJF(F:FI K mg "first_that_does" sFt)(GD:bF P w K mg base "does_wish" 4 3 aLS):bF P w K mg base "first_that_does" 5 3 aFN:=by
 refine dC (N:=["size","book","wish","entry"]) (ps:=["size","book","wish"]) (k:=4) F λf nd cdv A outer s H E hr ds r hl c=> ?_
 obtain⟨p,L,b,B,w,hp,S,O,W,rfl,rfl⟩:=c;refine aO<|mJ (ds:=B.map enD) (λt sd=>ftQ p w B=ftQ p w (B.drop t)/\sd=[.val<|cJ p,.val (.lst<|B.map enD),.val (.lst<|w.map wsD),.un]) (jJ<|pdv 1) ⟨_,Le.refl _,rfl,rfl⟩ (λt d sdt hd ht=> ?_) λsdn hn=> ?_
 ·obtain⟨q,rfl⟩:=ht;obtain⟨e,he,rfl,_⟩:=aAX hd;obtain⟨tl,ee⟩:=aD.mp he;obtain⟨x1,x2,x3,x4,x5⟩:=O.ent e<|aY he;have tk:xY p e.2.2:=by rw[x4];exact aJi hp S x1
  rw[dY tl,ee] at q;refine⟨[.val<|cJ p,.val (.lst<|B.map enD),.val (.lst<|w.map wsD),.val<|enD e],pgN 3, ?_⟩;refine aX<|fD (k:=doQ p w e.2.2) (fZ<|pdc (ds:=[cJ p,.lst<|w.map wsD,.tup<|e.2.2.map bP]) GD hr (aB (pdv 0) (aB (pdv 2)<|aB (pdx (n:=2) (ds:=[.int e.1,tN e.2.1,.tup<|e.2.2.map bP])<|pdv 3) aM)) ⟨p,w,e.2.2,hp,W,tk,rfl,rfl⟩) (λh=> ?_) λh=>eB ?_
  ·have e3:ftQ p w B=some e:=by rw[q];exact List.find?_cons_of_pos (p:=λe:Bk=>doQ p w e.2.2) h
   rw[e3];exact aX (iQ<|pdv 3)
  ·refine⟨[.val<|cJ p,.val (.lst<|B.map enD),.val (.lst<|w.map wsD),.un],⟨.inr rfl,.inr rfl,.inr rfl,.inl rfl,trivial⟩, ?_,rfl⟩;rw[q];exact List.find?_cons_of_neg (p:=λe:Bk=>doQ p w e.2.2) (by rw[h];decide)
 ·obtain⟨q,rfl⟩:=hn;rw[aC,aKT] at q;rw[q];exact aX<|iQ kU
theorem aGr(F:FI K mg "price_of" aDk)(zsum:mg "sum"=none):bF P w K mg base "price_of" 1 2 aAH:=by
 refine dC (N:=["stock","row"]) (ps:=["stock","row"]) (k:=0) F λf nd cdv A outer s H E hr ds r hl c=> ?_
 obtain⟨L,row,hrow,hl2,rfl,rfl⟩:=c;have nd2:(["number","stock"]:List Str).Nodup:=by decide+kernel
 have ec:((bT row).filter λ_=>true).map (λd=>match d with | .int t=>D.int (L.getD t.toNat AQ).2|_=>.non)=(sL L row).map D.int:=by
  rw[cV.mpr λ_ _=>rfl];unfold bT sL;rw[aV,aV];refine cF λt _=> ?_
  simp
 refine aX (iQ<|aKo (ns:=sL L row) rfl zsum (PEd.bor<|PEd.val (PEd.cast (pdC (ds:=bT row) (N:=["number","stock"]) (M:=["stock","row"]) (cap:=[none,some 0]) (sc:=aK aDk) (Tb:=λd=>[.val d,.val<|lK L]) (λ_=>true) (λd=>match d with | .int t=>D.int (L.getD t.toNat AQ).2|_=>.non) (oW<|pdv 1) (by rw[show(bT row).length=row.length from aC _];omega) (λcl C fp s H d hd=>.inl ⟨rfl,rfl⟩) λcl C fp s H d hd _=> ?_)<|by rw[ec])));obtain⟨t,ht,rfl⟩:=aQ.mp hd;have hn:=hrow t ht;exact pdx (n:=1) (ds:=[sqD (L.getD t AQ).1,.int (L.getD t AQ).2])<|mZ (n:=t) (PEd.bor<|pdv 1) (pdv 0) (aIh hn) λ_ _=>rfl
theorem aBV(F:FI K mg "steps_at" aAV):bF P w K mg base "steps_at" 1 3 qV:=by
 refine dC (N:=nl5) (ps:=nl5) (k:=0) F λf nd cdv A outer s H E hr ds r hl c=> ?_
 obtain⟨row,i,m,rfl,rfl⟩:=c;refine aX<|eJ (aJB (i:=i) (j:=i+m) (pdv 0) (pdv 1) (PEd.ic (fY iG (pdv 1)<|pdv 2)<|by omega)) trivial ?_;unfold bT;rw[Nat.add_sub_cancel_left,kE,kG]
abbrev vM:List Str:=["self","bound"]
theorem aNi{C:BF}(F:Fun K "book_up_to" "Shelf.book_up_to" aIF f fd)(T:nE K mg C)(GB:bF P w K mg base "book_of" 6 3 aFM)(p:Int×Int)(L:List SK):FnOk P w K mg base CX0 7 f fd vM (aLe (shZ K C p L) 2<|aPj p L):=by
 refine aHM (Z:=shZ K C p L) (N:=vM) (ps:=vM) (k:=6) F ⟨rfl,rfl,rfl,by decide+kernel,rfl,by decide+kernel,by decide+kernel⟩ (λcdv A outer s H E B hB hr a ds d hl c=> ?_) vU
 ·obtain⟨b,I,rfl,rfl⟩:=c;have hu:=uN hr 1;refine yR (C:=C) (fs:=aNX p L) (J:=JSh p L) (a:=a) 0 rfl λks ds J=> ?_
  by_cases hk:(Sum.inl (b:Int):Key)∈ks
  ·obtain⟨n,h1,h2⟩:=J.at_ hk;refine aO (fD (k:=false) (nY (ks:=ks) (ds:=ds) (k:=(b:Int)) 0 hu rfl (pv 0) T.cl T.nM (pdv 1) false λxs lx=> ?_) (λh=>by cases h) λ_=> ?_)
   ·obtain⟨x,hx⟩:∃x,xs[n]? =some x:=⟨_,fA<|by rw[<-lx];exact(aD.mp h1).1⟩;rw[zE J.1 h1 hx];rfl
   ·exact eB (aX<|aBz (J:=JSh p L) 0 rfl J (uC (n:=n) (k:=(b:Int)) 0 hu rfl (pv 0) T.cl T.nM (pdv 1) J.1 h1 h2 λ_ _=>rfl) rfl)
  ·have J2:=J.put I.le I.fit hk;obtain⟨n,h1,h2⟩:=J2.at_ (b:=b) (aI _<|bX _);refine aO (fD (k:=true) (nY (ks:=ks) (ds:=ds) (k:=(b:Int)) 0 hu rfl (pv 0) T.cl T.nM (pdv 1) true λxs lx=> ?_) (λ_=> ?_) λh=>by cases h)
   ·rw[oP hk λ_ z=>z];rfl
   ·exact aX<|aAy (d:=.lst<|(bkQ p L (b:Int)).map enD) (k:=(b:Int)) 0 hu rfl (pv 0) T.cl T.nM (PEd.val<|pdc (ds:=[cJ p,lK L,.int (b:Int)]) GB hr (aB (tG (d:=cJ p) 0 rfl (pv 0) T.cl T.nZ rfl) (aB (tG (d:=lK L) 0 rfl (pv 0) T.cl T.nS rfl)<|aB (pdv 1) aM)) ⟨p,L,(b:Int),I.hp,I.st,I.nd,I.fit,rfl,rfl⟩) (pdv 1) hk J.len (aX<|aBz (J:=JSh p L) 0 rfl J2 (uC (n:=n) (k:=(b:Int)) 0 hu rfl (pv 0) T.cl T.nM (pdv 1) J2.1 h1 h2 λ_ _=>rfl) rfl)
theorem aKB{C CN:BF}(F:Fun K "book_up_to" "Shelf.book_up_to" aIF f fd)(T:nE K mg C)(GB:eW P w K mg base "book_of" 6 3 tT (.ref CN) [] [])(p:Int×Int)(L:List SK):FnOk P w K mg base (CX1 P w<|.ref CN) 7 f fd vM (aKZ (shZ K C p L) 2<|aPi p L):=by
 refine aIV (Z:=shZ K C p L) (N:=vM) (ps:=vM) (k:=6) F ⟨rfl,rfl,rfl,by decide+kernel,rfl,by decide+kernel,by decide+kernel⟩ (λcdv A outer s H E B hB hr hE a ds hl c=> ?_) vU;obtain⟨b,I,rfl⟩:=c;have hu:=uN hr 1;refine yR (C:=C) (fs:=aNX p L) (J:=JSh p L) (a:=a) 0 rfl λks ds J=> ?_
 have hk:(Sum.inl (b:Int):Key)∉ks:=λhk=>by
  obtain⟨n,hn⟩:=dO hk;obtain⟨b',_,e,q,ft⟩:=J.2.2 n _ hn;have:b=b':=by have:=Sum.inl.inj e;omega
  subst this;have:=ft.le;have:=I.gr.2;omega
 refine aO<|fD (k:=true) (nY (ks:=ks) (ds:=ds) (k:=(b:Int)) 0 hu rfl (pv 0) T.cl T.nM (pdv 1) true λxs lx=> ?_) (λ_=> ?_) λh=>by cases h
 ·rw[oP hk λ_ z=>z];rfl
 ·exact aX<|aFU (zR (ds:=[cJ p,lK L,.int (b:Int)]) (dds:=[]) GB rfl hr rfl (aB (tG (d:=cJ p) 0 rfl (pv 0) T.cl T.nZ rfl) (aB (tG (d:=lK L) 0 rfl (pv 0) T.cl T.nS rfl)<|aB (pdv 1) aM)) (λ_=>RepL.nil) ⟨p,L,(b:Int),I.hp,I.st,I.nd,I.gr,rfl⟩ rfl<|pJ hE)
abbrev nl11:List Str:=["shelf","row","place","many","looked","wish","price","found"]
abbrev aLc:List Str:=["shelf","row","place","many","looked"]
theorem aCo{CS fB:BF}{fdB:AN}(F:Fun K "piece_from" "piece_from" vY f fd)(shT:nE K mg CS)(hm:mg "piece_from"=some (.ref f))(mB:aKW K CS "book_up_to" fB)(bB:Binds K fdB vM [])(GB:∀ (p:Int×Int) (L:List SK),FnOk P w K mg base CX0 7 fB fdB vM (aLe (shZ K CS p L) 2<|aPj p L))(GW:CalleeE [.none] P w K mg base "wish_at" 6 6 aLp)(GS:bF P w K mg base "steps_at" 1 3 qV)(GP:bF P w K mg base "price_of" 1 2 aAH)(GF:bF P w K mg base "first_that_does" 5 3 aFN)(p:Int×Int)(L:List SK):pV P w K (shZ K CS p L) mg base "piece_from" 8 5 (CPf p L):=by
 have nd:nl11.Nodup:=by decide+kernel
 refine⟨f,fd,aLc,hm,F.kp,F.binds (λ_ _ _ _ _ _ us hl=>match us,hl with | [_,_,_,_,_],_=>rfl),aHM (Z:=shZ K CS p L) (N:=nl11) (ps:=aLc) (k:=7) F ⟨rfl,rfl,rfl,nd,rfl,by decide+kernel,by decide+kernel⟩ (λcdv A outer s H E B hB hr a ds d hl c=> ?_) vU⟩;obtain⟨row,pl,mn,o,I,rfl,rfl⟩:=c;obtain⟨b,eb,Ib⟩:=I.bk;have W:=aOW Ib.hp Ib.st I.rw pl mn<|bxQ p.2.toNat o;have O:=aMS Ib.hp Ib.st Ib.fit;have rw1:∀t∈(row.drop pl).take mn,t<L.length:=λt ht=>I.rw t (dP<|dQ ht)
 have rl1:((row.drop pl).take mn).length<=500:=by have:=I.rl;rw[dH,fM];omega
 unfold pcQ;rw[eb];have es:sM (sL L<|(row.drop pl).take mn)=(b:Int)+1:=by omega
 refine aO<|qL (ds:=(waQ p L row pl mn<|bxQ p.2.toNat o).map wsD) 5 (pdc (ds:=[cJ p,lK L,tN row,.int (pl:Int),.int (mn:Int),lkD o]) GW.full hr (aB (jT (d:=cJ p) 0 rfl (pv 0) shT.cl shT.nZ rfl)<|aB (jT (d:=lK L) 0 rfl (pv 0) shT.cl shT.nS rfl) (aB (pdv 1)<|aB (pdv 2) (aB (pdv 3)<|aB (pdv 4) aM))) ⟨p,L,row,pl,mn,o,Ib.hp,Ib.st,I.rw,I.rl,I.m1,I.le,I.lk,rfl,rfl⟩) λl5=>iB 5 rfl ?_;generalize waQ p L row pl mn (bxQ p.2.toNat o)=wi at W;refine aO<|lE (d:=.int<|(b:Int)+1) 6 (PEd.ic (pdc (ds:=[lK L,tN<|(row.drop pl).take mn]) GP hr (aB (jT (d:=lK L) 0 rfl (pv 0) shT.cl shT.nS rfl)<|aB (pdc (ds:=[tN row,.int (pl:Int),.int (mn:Int)]) GS hr (aB (pdv 1) (aB (pdv 2)<|aB (pdv 3) aM)) ⟨row,pl,mn,rfl,rfl⟩) aM) ⟨L,_,rw1,rl1,rfl,rfl⟩) es) ?_;refine aO<|lE (d:=oeD (ftQ p wi<|bkQ p L (b:Int))) 7 (pdc (ds:=[cJ p,.lst<|(bkQ p L (b:Int)).map enD,.lst<|wi.map wsD]) GF hr (aB (jT (d:=cJ p) 0 rfl (pv 0) shT.cl shT.nZ rfl) (aB (aHr (ds:=[.int (b:Int)]) (d:=.lst<|(bkQ p L (b:Int)).map enD) 0 rfl (pv 0) aDI shT.cl mB (GB p L) hr bB (aB (PEd.ic (fY mX (pdv 6) cE)<|by omega) aM) ⟨b,Ib,rfl,rfl⟩ rfl)<|aB (pdv 5) aM)) ⟨p,L,(b:Int),bkQ p L (b:Int),wi,Ib.hp,Ib.st,O,W,rfl,rfl⟩) ?_;cases hq:ftQ p wi (bkQ p L (b:Int)) with
 |none=>exact aX<|aBp 0 rfl (aDg (k:=true) (PTd.cast (tS (d:=.non) (pdv 7) kU) rfl) (λ_=>kU) λh=>by cases h) rfl
 |some e=>exact aX<|aBp 0 rfl (aDg (k:=false) (PTd.cast (tS (d:=enD e) (pdv 7) kU) rfl) (λh=>by cases h) λ_=>pdx (n:=1) (ds:=[.int e.1,tN e.2.1,.tup<|e.2.2.map bP])<|pdv 7) rfl
theorem aEB{CS fB CN:BF}{fdB:AN}(F:Fun K "piece_from" "piece_from" vY f fd)(shT:nE K mg CS)(hm:mg "piece_from"=some (.ref f))(mB:aKW K CS "book_up_to" fB)(bB:Binds K fdB vM [])(GB:∀ (p:Int×Int) (L:List SK),FnOk P w K mg base (CX1 P w<|.ref CN) 7 fB fdB vM (aKZ (shZ K CS p L) 2<|aPi p L))(GW:CalleeE [.none] P w K mg base "wish_at" 6 6 aLp)(GS:bF P w K mg base "steps_at" 1 3 qV)(GP:bF P w K mg base "price_of" 1 2 aAH)(GF:bF P w K mg base "first_that_does" 5 3 aFN)(p:Int×Int)(L:List SK):jH P w K (shZ K CS p L) mg base "piece_from" 8 5 (XPf p L) (.ref CN):=by
 have nd:nl11.Nodup:=by decide+kernel
 refine⟨f,fd,aLc,hm,F.kp,F.binds (λ_ _ _ _ _ _ us hl=>match us,hl with | [_,_,_,_,_],_=>rfl),aIV (Z:=shZ K CS p L) (N:=nl11) (ps:=aLc) (k:=7) F ⟨rfl,rfl,rfl,nd,rfl,by decide+kernel,by decide+kernel⟩ (λcdv A outer s H E B hB hr hE a ds hl c=> ?_) vU⟩;obtain⟨row,pl,mn,o,I,rfl⟩:=c;obtain⟨b,eb,Ib⟩:=I.bk;have rw1:∀t∈(row.drop pl).take mn,t<L.length:=λt ht=>I.rw t (dP<|dQ ht)
 have rl1:((row.drop pl).take mn).length<=500:=by have:=I.rl;rw[dH,fM];omega
 have es:sM (sL L<|(row.drop pl).take mn)=(b:Int)+1:=by omega
 obtain⟨fF,_,_,mF,kF,_⟩:=GF.ex;refine aO<|qL (ds:=(waQ p L row pl mn<|bxQ p.2.toNat o).map wsD) 5 (pdc (ds:=[cJ p,lK L,tN row,.int (pl:Int),.int (mn:Int),lkD o]) GW.full hr (aB (jT (d:=cJ p) 0 rfl (pv 0) shT.cl shT.nZ rfl)<|aB (jT (d:=lK L) 0 rfl (pv 0) shT.cl shT.nS rfl) (aB (pdv 1)<|aB (pdv 2) (aB (pdv 3)<|aB (pdv 4) aM))) ⟨p,L,row,pl,mn,o,Ib.hp,Ib.st,I.rw,I.rl,I.m1,I.le,I.lk,rfl,rfl⟩) λl5=>iB 5 rfl ?_;generalize waQ p L row pl mn (bxQ p.2.toNat o)=wi;refine aO<|lE (d:=.int<|(b:Int)+1) 6 (PEd.ic (pdc (ds:=[lK L,tN<|(row.drop pl).take mn]) GP hr (aB (jT (d:=lK L) 0 rfl (pv 0) shT.cl shT.nS rfl)<|aB (pdc (ds:=[tN row,.int (pl:Int),.int (mn:Int)]) GS hr (aB (pdv 1) (aB (pdv 2)<|aB (pdv 3) aM)) ⟨row,pl,mn,rfl,rfl⟩) aM) ⟨L,_,rw1,rl1,rfl,rfl⟩) es) ?_;exact aO (uH 7 nd rfl (Or.inl rfl)<|aJP rfl mF kF (jT (d:=cJ p) 0 rfl (pv 0) shT.cl shT.nZ rfl) (aEH (ds:=[.int (b:Int)]) 0 rfl (pv 0) aDI shT.cl mB (GB p L) hr bB (aB (PEd.ic (fY mX (pdv 6) cE)<|by omega) aM) ⟨b,Ib,rfl⟩ rfl<|pJ hE))
theorem aEQ{CS CW:BF}(F:Fun K "piece_from" "piece_from" vY f fd)(shT:nE K mg CS)(hm:mg "piece_from"=some (.ref f))(GW:eW P w K mg base "wish_at" 2 6 pO (.ref CW) [] [])(p:Int×Int)(L:List SK):jH P w K (shZ K CS p L) mg base "piece_from" 8 5 aNO (.ref CW):=by
 have nd:nl11.Nodup:=by decide+kernel
 refine⟨f,fd,aLc,hm,F.kp,F.binds (λ_ _ _ _ _ _ us hl=>match us,hl with | [_,_,_,_,_],_=>rfl),aIV (Z:=shZ K CS p L) (N:=nl11) (ps:=aLc) (k:=7) F ⟨rfl,rfl,rfl,nd,rfl,by decide+kernel,by decide+kernel⟩ (λcdv A outer s H E B hB hr hE a ds hl c=> ?_) vU⟩;obtain⟨row,x,y,dl,rfl,hw⟩:=c;exact aO<|uH 5 nd rfl (Or.inl rfl) (zR (ds:=[cJ p,lK L,tN row,.int x,.int y,dl]) (dds:=[]) GW rfl (hr.mono (show 2<=7 by decide)) rfl (aB (jT (d:=cJ p) 0 rfl (pv 0) shT.cl shT.nZ rfl)<|aB (jT (d:=lK L) 0 rfl (pv 0) shT.cl shT.nS rfl) (aB (pdv 1)<|aB (pdv 2) (aB (pdv 3)<|aB (pdv 4) aM))) (λ_=>RepL.nil) ⟨p,L,row,x,y,dl,rfl,hw⟩ rfl<|pJ hE)
theorem aCw{CS fB CN CW:BF}{fdB:AN}(F:FI K mg "piece_from" vY)(shT:nE K mg CS)(mB:aKW K CS "book_up_to" fB)(shB:Fun K "book_up_to" "Shelf.book_up_to" aIF fB fdB)(GO:bF P w K mg base "book_of" 6 3 aFM/\eW P w K mg base "book_of" 6 3 tT (.ref CN) [] [])(GW:CalleeE [.none] P w K mg base "wish_at" 6 6 aLp/\eW P w K mg base "wish_at" 2 6 pO (.ref CW) [] [])(GS:bF P w K mg base "steps_at" 1 3 qV)(GP:bF P w K mg base "price_of" 1 2 aAH)(GF:bF P w K mg base "first_that_does" 5 3 aFN):∀ (p:Int×Int) (L:List SK),(pV P w K (shZ K CS p L) mg base "piece_from" 8 5 (CPf p L)/\jH P w K (shZ K CS p L) mg base "piece_from" 8 5 (XPf p L) (.ref CN))/\jH P w K (shZ K CS p L) mg base "piece_from" 8 5 aNO (.ref CW):=by
 obtain⟨f,fd,hm,F⟩:=F;intro p L;have bB:=shB.binds (ps:=vM) λ_ _ _ _ _ _ us hl=>match us,hl with | [_,_],_=>rfl
 exact⟨⟨aCo F shT hm mB bB (aNi shB shT GO.1) GW.1 GS GP GF p L,aEB F shT hm mB bB (aKB shB shT GO.2) GW.1 GS GP GF p L⟩,aEQ F shT hm GW.2 p L⟩
abbrev aIE:List Str:=["self","size","stock"]
theorem yJ{C:BF}(F:Fun K "__init__" "Shelf.__init__" aKY f fd)(T:nE K mg C):FnOk P w K mg base CX0 1 f fd aIE (qN C):=by
 refine F.ok (N:=aIE) ⟨rfl,rfl,rfl,by decide+kernel,rfl,by decide+kernel,by decide+kernel⟩ (λvs H Q E h=> ?_) λcdv A outer s H vs Q E hr h=> ?_
 ·obtain⟨x,dx,v1,v2,rfl,_⟩:=h;rfl
 ·obtain⟨x,dx,v1,v2,rfl,hx,k⟩:=h;refine⟨_,wD (aDq (pv 0) (pv 1) rfl)<|wD (aDq (pv 0) (pv 2) rfl) (aDD<|aDq (pv 0) aHg rfl), ?_⟩;refine⟨_,rfl,_,rfl,x,C,dx,[],rfl,hx,T.cl,T.nZ,(by show 0<1000;decide), ?_⟩;refine⟨_,rfl,_,rfl,x,C,dx,_,rfl,bJ,T.cl,T.nS,(by show 1<1000;decide), ?_⟩;intro m hm
  have nxm:x≠m:=λz=>by subst z;rw[bJ] at hm;cases hm
  refine⟨_,rfl,x,C,dx,_,rfl,(by rw[aR nxm,bJ]),T.cl,T.nM,(by have:=lH "stock" v2<|mI "size" v1 [];have:=lH "size" v1 [];simp only[fX] at this;omega), ?_⟩;rw[aR nxm.symm,aR nxm.symm] at hm;have q:=k m hm;rw[aGL];exact q
theorem aFc{CS fI CN:BF}{fdI:AN}(F:aHw #[.none] K "piece_for" "piece_for" aFL f fd)(shT:nE K mg CS)(shM:Mk K CS fI)(bI:Binds K fdI aIE [])(GI:FnOk P w K mg base CX0 1 fI fdI aIE (qN CS))(hm:mg "piece_for"=some (.ref f))(GP:∀ (p:Int×Int) (L:List SK),pV P w K (shZ K CS p L) mg base "piece_from" 8 5 (CPf p L)/\jH P w K (shZ K CS p L) mg base "piece_from" 8 5 (XPf p L) (.ref CN)):CalleeE [.none] P w K mg base "piece_for" 9 6 aIY/\eW P w K mg base "piece_for" 9 6 aIQ (.ref CN) [] []:=by
 have nd:nl7.Nodup:=by decide+kernel
 constructor
 ·refine aDC (N:=nl7) (ps:=nl7) (k:=8) F ⟨rfl,rfl,rfl,nd,rfl,by decide+kernel,by decide+kernel⟩ hm (λs T o nn _ _ _ _ _ _ us hT hS hl=>match us,hl with | [_,_,_,_,_,_],_=>BindsTo.of_defaults rfl hT hS rfl rfl) (λs T o nn _ _ _ _ _ _ us hT hS hl=>match us,hl with | [_,_,_,_,_],_=>BindsTo.of_defaults rfl hT hS rfl rfl) λcdv A outer s H E hr ds r hl c=> ?_
  obtain⟨p,L,row,pl,mn,o,I,rfl,rfl⟩:=c;exact aX (iQ<|aEW (Z:=shZ K CS p L) (ds:=[tN row,.int (pl:Int),.int (mn:Int),lkD o]) [2,3,4,5] (uD JSh.nil shT shM GI bI (hr.mono<|by decide) rfl (aB (pdv 0)<|aB (pdv 1) aM)) (GP p L).1 hr rfl (cY (pv 2)<|cY (pv 3) (cY (pv 4)<|cY (pv 5) pa_nil)) rfl (λa=>⟨row,pl,mn,o,I,rfl,rfl⟩) rfl)
 ·refine uP (N:=nl7) (ps:=nl7) (k:=8) F ⟨rfl,rfl,rfl,nd,rfl,by decide+kernel,by decide+kernel⟩ hm (λs T o nn _ _ _ _ _ _ us hT hS hl=>match us,hl with | [_,_,_,_,_,_],_=>BindsTo.of_defaults rfl hT hS rfl rfl) λcdv A outer s H E hr hE ds hl c=> ?_
  obtain⟨p,L,row,pl,mn,o,I,rfl⟩:=c;exact aX<|aBd (yA (Z:=shZ K CS p L) (ds:=[tN row,.int (pl:Int),.int (mn:Int),lkD o]) [2,3,4,5] (uD JSh.nil shT shM GI bI (hr.mono<|by decide) rfl (aB (pdv 0)<|aB (pdv 1) aM)) (GP p L).2 hr rfl (cY (pv 2)<|cY (pv 3) (cY (pv 4)<|cY (pv 5) pa_nil)) rfl (λa=>⟨row,pl,mn,o,I,rfl⟩) rfl<|rS hE)
theorem aGd{CS fI CW:BF}{fdI:AN}(F:aHw #[.none] K "piece_for" "piece_for" aFL f fd)(shT:nE K mg CS)(shM:Mk K CS fI)(bI:Binds K fdI aIE [])(GI:FnOk P w K mg base CX0 1 fI fdI aIE (qN CS))(hm:mg "piece_for"=some (.ref f))(GP:∀ (p:Int×Int) (L:List SK),jH P w K (shZ K CS p L) mg base "piece_from" 8 5 aNO<|.ref CW):eW P w K mg base "piece_for" 9 6 pO (.ref CW) [] []:=by
 have nd:nl7.Nodup:=by decide+kernel
 refine uP (N:=nl7) (ps:=nl7) (k:=8) F ⟨rfl,rfl,rfl,nd,rfl,by decide+kernel,by decide+kernel⟩ hm (λs T o nn _ _ _ _ _ _ us hT hS hl=>match us,hl with | [_,_,_,_,_,_],_=>BindsTo.of_defaults rfl hT hS rfl rfl) λcdv A outer s H E hr hE ds hl c=> ?_
 obtain⟨p,L,row,x,y,dl,rfl,hw⟩:=c;exact aX<|aBd (yA (Z:=shZ K CS p L) (ds:=[tN row,.int x,.int y,dl]) [2,3,4,5] (uD JSh.nil shT shM GI bI (hr.mono<|by decide) rfl (aB (pdv 0)<|aB (pdv 1) aM)) (GP p L) hr rfl (cY (pv 2)<|cY (pv 3) (cY (pv 4)<|cY (pv 5) pa_nil)) rfl (λa=>⟨row,x,y,dl,rfl,hw⟩) rfl<|rS hE)
theorem aEt{CS fI CN CW:BF}{fdI:AN}(F:FID K mg "piece_for" aFL)(shT:nE K mg CS)(shM:Mk K CS fI)(shF:Fun K "__init__" "Shelf.__init__" aKY fI fdI)(GP:∀ (p:Int×Int) (L:List SK),(pV P w K (shZ K CS p L) mg base "piece_from" 8 5 (CPf p L)/\jH P w K (shZ K CS p L) mg base "piece_from" 8 5 (XPf p L) (.ref CN))/\jH P w K (shZ K CS p L) mg base "piece_from" 8 5 aNO (.ref CW)):(CalleeE [.none] P w K mg base "piece_for" 9 6 aIY/\eW P w K mg base "piece_for" 9 6 aIQ (.ref CN) [] [])/\eW P w K mg base "piece_for" 9 6 pO (.ref CW) [] []:=by
 obtain⟨f,fd,hm,F⟩:=F;have b:=shF.binds (ps:=aIE) λ_ _ _ _ _ _ us hl=>match us,hl with | [_,_,_],_=>rfl
 exact⟨aFc F shT shM b (yJ shF shT) hm λp L=>(GP p L).1,aGd F shT shM b (yJ shF shT) hm λp L=>(GP p L).2⟩
theorem aFj(F:FI K mg "_law_cell_at" aDv)(zlen:mg "len"=none):bF P w K mg base "_law_cell_at" 1 2 aIZ:=by
 refine dC (N:=["_law_script","_law_k"]) (ps:=["_law_script","_law_k"]) (k:=0) F λf nd cdv A outer s H E hr ds r hl c=> ?_
 obtain⟨ns,k,rfl,hk,rfl⟩:=c;refine aO<|fD (rV aLL (pdv 1) (aKb rfl zlen<|pdv 0)<|iH _) (λh=> ?_) λh=>eB ?_
 ·have h':k<ns.length:=by simpa using h
  exact aX (iQ<|aNv (z:=ns.getD k 0) (pdv 0) (pdv 1) (by simp[h']) λ_ _=>rfl)
 ·have h':¬ k<ns.length:=by simpa using h
  refine aX<|eJ cE trivial ?_;show R.val (.int 0)=R.val (.int<|ns.getD k 0);simp[cK,h']
theorem aGF(F:FI K mg "_law_mixed" aHN):bF P w K mg base "_law_mixed" 1 2 aDe:=by
 refine dC (N:=["_law_cell","_law_k","_law_number"]) (ps:=["_law_cell","_law_k"]) (k:=0) F λf nd cdv A outer s H E hr ds r hl c=> ?_
 obtain⟨c,k,rfl,hk,rfl⟩:=c;have kb:((k:Nat):Int).natAbs<2^250:=cN (by omega:_<=1000)<|by decide
 have kb2:((k:Int)*(k:Int)).natAbs<2^250:=by rw[Int.natAbs_mul,aIy];exact cN (aNS hk hk)<|by decide
 refine aO<|fD (tK (dR gY (pdv 0) cE<|by decide) cE) (λh=> ?_) λh=>eB ?_
 ·have h':c%2=1:=by simpa using h
  refine aX<|eJ (dR lD (pdv 0) cE ⟨by decide,by decide⟩) trivial ?_;unfold lX;rw[if_pos h']
 have h':¬ c%2=1:=by simpa using h
 have c1:=cZ c (show(2147483647:Int)≠0 by decide);have c2:=cS c (show(0:Int)<2147483647 by decide);have big:∀z:Int,0<=z/\z<2147483647->z.natAbs<2^250:=λz hz=>cN (by omega:z.natAbs<=2147600000)<|by decide
 refine aO<|lE (d:=.int<|aLg c k) 2 (dR gY (fY iG (fY iG (dR lN (dR gY (pdv 0) cE<|by decide) cE (mK (big _ ⟨c1,c2⟩)<|by decide))<|dR lN (dR lN (pdv 1) (pdv 1)<|mK kb kb) cE (mK kb2<|by decide)) cE) cE<|by decide) ?_;have r0:=aHo c k;refine aX<|eJ (dR gY (fY iG (fY iG (dR lN (pdv 2) (pdv 2) (mK (big _ r0)<|big _ r0))<|dR lN cE (pdv 2) (mK (by decide)<|big _ r0))<|pdv 1) cE<|by decide) trivial ?_;unfold lX;rw[if_neg h']
theorem aEC(F:FI K mg "_law_step" aDA):bF P w K mg base "_law_step" 1 2 aHV:=by
 refine dC (N:=["_law_m","_law_size","_law_i","_law_j","_law_kind"]) (ps:=["_law_m","_law_size"]) (k:=0) F λf nd cdv A outer s H E hr ds r hl c=> ?_
 obtain⟨x,p,hp,rfl,rfl⟩:=c;obtain⟨h1,h2,h3,h4,h5⟩:=vZ p hp;have m0:=pw0 p.1.toNat;have e1:p.1=((p.1.toNat:Nat):Int):=by omega
 have p20:(0:Int)<p.2:=by omega
 have d0:=cZ x (show(10:Int)≠0 by decide);have d1:=cS x (show(0:Int)<10 by decide);refine aO<|lE (d:=.int<|x / 10%p.2) 2 (dR gY (dR lD (pdv 0) cE ⟨by decide,by decide⟩) (pdx (n:=1) (d:=.int p.2)<|pdv 1) p20) ?_;refine aO<|lE (d:=.int<|x / 60%p.2) 3 (dR gY (dR lD (pdv 0) cE ⟨by decide,by decide⟩) (pdx (n:=1) (d:=.int p.2)<|pdv 1) p20) ?_;refine aO<|lE (d:=.int<|x%10) 4 (dR gY (pdv 0) cE<|by decide) ?_
 have nm6:∀k:Nat,k<6->([.str "and",.str "or",.str "xor",.str "add",.str "take",.str "copy"]:List D)[k]? =some (.str<|nm k):=by
  intro k hk
  match k,hk with
  |0,_=>rfl
  |1,_=>rfl
  |2,_=>rfl
  |3,_=>rfl
  |4,_=>rfl
  |5,_=>rfl
 have nm7:∀k:Nat,k<3->([.str "not",.str "up",.str "down"]:List D)[k]? =some (.str (nm<|k+7)):=by
  intro k hk
  match k,hk with
  |0,_=>rfl
  |1,_=>rfl
  |2,_=>rfl
 refine aO<|fD (rV aLL (pdv 4) cE<|iH _) (λh=> ?_) λh=>eB ?_
 ·have h':x%10<6:=by simpa using h
  have es:sqD (sK p x)=.tup [.str<|nm (x%10).toNat,.int<|x / 10%p.2,.int<|x / 60%p.2]:=by show kB (x%10).toNat _ _ _=_;unfold kB;rw[if_pos<|by omega];rfl
  rw[es];refine aX<|iQ (pdT (ds:=[.str<|nm (x%10).toNat,.int<|x / 10%p.2,.int<|x / 60%p.2])<|aB (aAq (i:=x%10) (ds:=[.str "and",.str "or",.str "xor",.str "add",.str "take",.str "copy"]) (PEd.bor (PEd.val<|pdL (ds:=[.str "and",.str "or",.str "xor",.str "add",.str "take",.str "copy"]) ?_)) (pdv 4) d0 (nm6 (x%10).toNat<|by omega) λ_ _=>rfl) (aB (pdv 2)<|aB (pdv 3) aM))
  repeat' (first|exact aM|refine aB fU ?_)
 have h':¬ x%10<6:=by simpa using h
 refine aO<|fD (tK (pdv 4) cE) (λh2=> ?_) λh2=>eB ?_
 ·have h2':x%10=6:=by simpa using h2
  have es:sqD (sK p x)=.tup [.str "put",.int<|x / 10%p.2,.int<|x / 360%((2^p.1.toNat:Nat):Int)]:=by show kB (x%10).toNat _ _ _=_;rw[h2'];rfl
  rw[es];exact aX<|iQ (pdT (ds:=[.str "put",.int<|x / 10%p.2,.int<|x / 360%((2^p.1.toNat:Nat):Int)])<|aB fU (aB (pdv 2)<|aB (dR gY (dR lD (pdv 0) cE ⟨by decide,by decide⟩) (aEd (PEd.ic (pdx (n:=0) (d:=.int p.1)<|pdv 1) e1)<|by omega) m0) aM))
 have h2':¬ x%10=6:=by simpa using h2
 have es:sqD (sK p x)=.tup [.str<|nm (x%10).toNat,.int<|x / 10%p.2]:=by show kB (x%10).toNat _ _ _=_;unfold kB;rw[if_neg<|by omega,if_neg<|by omega];rfl
 rw[es];have e7:(x%10-7).toNat+7=(x%10).toNat:=by omega
 have n7:=nm7 (x%10-7).toNat (by omega);rw[e7] at n7;refine aX (iQ<|pdT (ds:=[.str<|nm (x%10).toNat,.int<|x / 10%p.2]) (aB (aAq (i:=x%10-7) (PEd.bor (PEd.val<|pdL (ds:=[.str "not",.str "up",.str "down"]) ?_)) (fY mX (pdv 4) cE) (by omega) n7 λ_ _=>rfl)<|aB (pdv 2) aM))
 repeat' (first|exact aM|refine aB fU ?_)
abbrev aOq:List Str:=["_law_cell","_law_size"]
theorem aEZ(F:FI K mg "_law_looked" aAm)(zlist:mg "list"=none)(zrange:mg "range"=none):bF P w K mg base "_law_looked" 1 2 aHK:=by
 refine dC (N:=aOq) (ps:=aOq) (k:=0) F λf nd cdv A outer s H E hr ds r hl c=> ?_
 obtain⟨c,p,hp,rfl,rfl⟩:=c;obtain⟨h1,h2,h3,h4,h5⟩:=vZ p hp;have e2:p.2=((p.2.toNat:Nat):Int):=by omega
 have nd2:(["_law_box","_law_cell"]:List Str).Nodup:=by decide+kernel
 refine aO<|fD (tK (dR gY (pdv 0) cE<|by decide) cE) (λh=> ?_) λh=>eB ?_
 ·have h':c%5=0:=by simpa using h
  refine aX<|eJ (pY (n:=p.2.toNat) rfl zlist rfl zrange (PEd.ic (pdx (n:=1) (d:=.int p.2)<|pdv 1) e2)<|by omega) trivial ?_;unfold aHy;rw[if_pos h',oM]
 ·have h':¬ c%5=0:=by simpa using h
  refine aX<|eJ (pdC (ds:=gX 0 p.2.toNat) (N:=["_law_box","_law_cell"]) (M:=aOq) (cap:=[none,some 0]) (sc:=aK aAm) (Tb:=λd=>[.val d,.val<|.int c]) (λd=>match d with | .int b=>decide (c / 5 / ((2^b.toNat:Nat):Int)%2=1)|_=>true) (λd=>d) (kR (n:=p.2.toNat) rfl zrange (PEd.ic (pdx (n:=1) (d:=.int p.2)<|pdv 1) e2)<|by omega) (by rw[gZ];omega) (λcl C fp s H d hd=> ?_) λcl C fp s H d hd _=>(pdv 0)) trivial ?_
  ·obtain⟨k,hk,rfl⟩:=aQ.mp hd;have hk2:=cU.mp hk;have p0:=pw0 k;have p1:(2^k:Nat)<=64:=cD (pP (by decide) (show k<=6 by omega)) (by decide);refine .inr ⟨_,rfl, ?_⟩;show PTd _ _ _ (decide<|c / 5 / ((2^(0+(k:Int)).toNat:Nat):Int)%2=1);rw[sW,dJ];refine tK (dR gY (dR lD (dR lD (pdv 1) cE ⟨by decide,by decide⟩) (aEd (k:=k) (pdv 0)<|by omega) ⟨p0, ?_⟩) cE<|by decide) cE;rw[aIy];exact cN (cD (Nat.log2_le_self _) p1)<|by decide
  ·unfold aHy;rw[if_neg h',oM];show R.own _=R.own (bT _);congr 1;unfold bT;rw[List.map_id',List.filter_map];rfl
abbrev aPz:List Str:=["_law_script","_law_size","_law_kit","_law_k","_law_step_here"]
theorem aCh(F:FI K mg "_law_stock" qJ)(zrange:mg "range"=none)(GC:bF P w K mg base "_law_cell_at" 1 2 aIZ)(GM:bF P w K mg base "_law_mixed" 1 2 aDe)(GT:bF P w K mg base "_law_step" 1 2 aHV):bF P w K mg base "_law_stock" 2 2 aHI:=by
 refine dC (N:=aPz) (ps:=["_law_script","_law_size"]) (k:=1) F λf nd cdv A outer s H E hr ds r hl c=> ?_
 obtain⟨ns,p,hp,rfl,rfl⟩:=c;have hu:=uN hr 4;refine aO<|qL (ds:=([]:List SK).map skD) 2 (aAL (ds:=[]) aM<|cQ _) λl5=> ?_;refine aO<|qO (ds:=gX 0 8) (λt=>[.val<|.scr ns,.val<|cJ p,.own l5<|(ktN p ns 4 1 t).map skD,.un,.un]) (λt=>[.val<|.scr ns,.val<|cJ p,.own l5<|(ktN p ns 4 1 t).map skD,.val (.int<|0+(t:Int)),.un]) (kR (n:=8) rfl zrange cE<|by omega) ⟨.inr rfl,.inr rfl,.inr rfl,.inr rfl,.inr rfl,trivial⟩ (λt d' hd=> ?_) (λt d' hd=> ?_) ?_
 ·obtain⟨_,rfl⟩:=lC hd;exact pgN 3
 ·obtain⟨ht,rfl⟩:=lC hd;rw[sW];have ll:(ktN p ns 4 1 t).length<=8:=cD (aCZ hp ns 4 (show(1:Int)<=1 by decide) (by decide) t).1 (by omega);refine aO (lE (d:=sqD<|sK p (lX (ns.getD (4+t) 0)<|t+1)) 4 (pdc (ds:=[.int (lX (ns.getD (4+t) 0)<|t+1),cJ p]) GT hr (aB (pdc (ds:=[.int<|ns.getD (4+t) 0,.int ((t+1:Nat):Int)]) GM hr (aB (pdc (ds:=[.scr ns,.int ((4+t:Nat):Int)]) GC hr (aB (pdv 0)<|aB (PEd.ic (fY iG cE<|pdv 3)<|by omega) aM) ⟨ns,4+t,rfl,by omega,rfl⟩)<|aB (PEd.ic (fY iG (pdv 3) cE)<|by omega) aM) ⟨_,t+1,rfl,by omega,rfl⟩)<|aB (pdv 1) aM) ⟨_,p,hp,rfl,rfl⟩) ?_)
  have eN:ktN p ns 4 1 (t+1)=if((ktN p ns 4 1 t).map skD |>.map ktN.fstQ).any (λz=>deq z (sqD<|sK p (lX (ns.getD (4+t) 0)<|t+1))) then ktN p ns 4 1 t else ktN p ns 4 1 t++[(sK p (lX (ns.getD (4+t) 0)<|t+1),1)]:=by
   have e1:(1:Int)+lX (ns.getD (4+t) 0) (t+1) / 10^6%1=1:=by omega
   rw[ktN,e1]
  rw[eN];generalize ktN p ns 4 1 t=L at *;generalize sK p (lX (ns.getD (4+t) 0)<|t+1)=q;have nd2:(["_law_one","_law_price"]:List Str).Nodup:=by decide+kernel
  have plc:plL ((L.map skD).map ktN.fstQ)=true/\lA ((L.map skD).map ktN.fstQ)<=1:=by rw[aV];exact⟨aAk (λs:SK=>ktN.fstQ<|skD s) (λs=>aLU s.1) _,uY (λs:SK=>ktN.fstQ<|skD s) 1 (λs=>sT<|aNs s.1) _⟩
  have ef:((L.map skD).filter λ_=>true).map ktN.fstQ=(L.map skD).map ktN.fstQ:=by rw[cV.mpr λ_ _=>rfl]
  refine aX<|fD (k:= !((L.map skD).map ktN.fstQ).any λz=>deq z<|sqD q) (PTd.lend 2 rfl (aLY rfl) (aBm (pdv 4) (PEd.val (PEd.cast (kJ (ds:=L.map skD) (N:=["_law_one","_law_price"]) (M:=aPz) (cap:=[none,none]) (sc:=aK qJ) (Tb:=λd=>twoT d []) (λ_=>true) ktN.fstQ (jJ<|pdv 2) (by rw[aC];omega) rfl (by decide+kernel) rfl (by decide+kernel) rfl (λcl C fp s H d hd=> ?_) (λd hd=> ?_) (λcl C fp s H d hd=>.inl ⟨rfl,rfl⟩) λcl C fp s H d hd _=> ?_)<|by rw[ef])) (aLU q) plc.1<|by have:=plc.2;show(A.deeper<|Ag "_law_stock" (aK qJ) s.heap.objs.size f cdv).units+1+_<AS;omega)) (λh=> ?_) λh=> ?_
  ·obtain⟨s,_,rfl⟩:=aQ.mp hd;exact lO (js:=[0,1]) rfl (eZ (pgn 0)<|eZ (pgn 1) lG) rfl rfl
  ·obtain⟨s,_,rfl⟩:=aQ.mp hd;exact⟨.inl rfl,.inl rfl,trivial⟩
  ·obtain⟨s,_,rfl⟩:=aQ.mp hd;exact(pdv 0)
  ·have h':((L.map skD).map ktN.fstQ).any (λz=>deq z<|sqD q)=false:=by simpa using h
   rw[h'];refine aX<|vP (d:=skD (q,1)) 2 rfl (pv 2) (pdT (ds:=[sqD q,.int 1]) (aB (pdv 4)<|aB cE aM)) (by rw[aC];omega) ?_;refine⟨.inr rfl,.inr rfl,.inr ?_,.inl rfl,.inl rfl,trivial⟩;simp only[bZ,if_false,bK];rfl
  ·have h':((L.map skD).map ktN.fstQ).any (λz=>deq z<|sqD q)=true:=by simpa using h
   rw[h'];exact eB ⟨.inr rfl,.inr rfl,.inr rfl,.inl rfl,.inl rfl,trivial⟩
 ·rw[gZ];exact aX<|qK 2 rfl (pv 2) rfl
theorem aBQ{CG CW CL CC CT CI:BF}(F:FI K mg "_law_class" aIs)(zi:mg "isinstance"=none)(xk:aNN K mg CG CW CL CC CT CI):pZ P w K mg base "_law_class" 1 1 (aOj CG CW):=by
 obtain⟨f,fd,hm,F⟩:=F;have nd:(["_law_e"]:List Str).Nodup:=by decide+kernel
 refine aKI (N:=["_law_e"]) (ps:=["_law_e"]) (k:=0) F ⟨rfl,rfl,rfl,nd,rfl,by decide+kernel,by decide+kernel⟩ hm (λ_ _ _ _ _ _ us hl=>match us,hl with | [_],_=>rfl) λcdv A outer s H E hr ds r hl c=> ?_
 obtain⟨b,rfl,rfl⟩:=c;cases b with
 |true=>refine aKX (PWd.pt (rH (k:=false) (j:=false) (oO (k:=true)<|fZ (yM 0 xk.g.xc rfl zi rfl xk.ve aEg xk.g.ve rfl<|pv 0)) λ_=>rH (k:=false) (j:=false) (fZ (hV 0 xk.g.xc rfl zi rfl xk.nc xk.g.nc rfl<|pv 0)) λ_=>rH (k:=false) (j:=false) (fZ (hV 0 xk.g.xc rfl zi rfl xk.nt xk.g.nt rfl<|pv 0)) λ_=>aDR<|fZ (hV 0 xk.g.xc rfl zi rfl xk.ns xk.g.ns rfl<|pv 0))) ?_;exact aO<|pX (k:=true) (PWd.pt<|qQ (k:=true) (j:=true) (fZ (hV 0 xk.g.xc rfl zi rfl xk.tg xk.g.tg rfl<|pv 0)) λ_=>uW (oO (k:=false)<|fZ (hV 0 xk.g.xc rfl zi rfl xk.nw xk.g.nw rfl<|pv 0))) rfl (aX<|iQ fU)
 |false=>refine aKX (PWd.pt (rH (k:=false) (j:=false) (oO (k:=true)<|fZ (yM 0 xk.w.xc rfl zi rfl xk.ve aEg xk.w.ve rfl<|pv 0)) λ_=>rH (k:=false) (j:=false) (fZ (hV 0 xk.w.xc rfl zi rfl xk.nc xk.w.nc rfl<|pv 0)) λ_=>rH (k:=false) (j:=false) (fZ (hV 0 xk.w.xc rfl zi rfl xk.nt xk.w.nt rfl<|pv 0)) λ_=>aDR<|fZ (hV 0 xk.w.xc rfl zi rfl xk.ns xk.w.ns rfl<|pv 0))) ?_;refine aKX (PWd.pt<|qQ (k:=false) (j:=false) (fZ (hV 0 xk.w.xc rfl zi rfl xk.tg xk.w.tg rfl<|pv 0)) λh=>by cases h) ?_;exact aO<|pX (k:=true) (PWd.pt<|qQ (k:=true) (j:=true) (fZ (hV 0 xk.w.xc rfl zi rfl xk.nw xk.w.nw rfl<|pv 0)) λ_=>uW (oO (k:=false)<|fZ (hV 0 xk.w.xc rfl zi rfl xk.tg xk.w.tg rfl<|pv 0))) rfl (aX<|iQ fU)
theorem aCs{CG CW CL CC CT CI:BF}(F:FI K mg "_law_book" aPe)(xk:aNN K mg CG CW CL CC CT CI)(GB:bF P w K mg base "book_of" 6 3 aFM/\eW P w K mg base "book_of" 6 3 tT (.ref CG) [] [])(GC:pZ P w K mg base "_law_class" 1 1 (aOj CG CW)):bF P w K mg base "_law_book" 7 3 aLR:=by
 refine dC (N:=["_law_size","_law_kit","_law_bound","_law_found","_law_e"]) (ps:=["_law_size","_law_kit","_law_bound"]) (k:=6) F λf nd cdv A outer s H E hr ds r hl c=> ?_
 obtain⟨p,L,b,hp,S,N,b3,rfl,rfl⟩:=c;refine aO<|lE (d:=.str "none") 3 fU ?_
 by_cases g:500<(bkF p L b).length
 ·rw[if_pos g];refine aO (uE (cls:=.ref CG) 4 nd rfl rfl rfl xk.le xk.g.le (λξ pn F0 tk=> ?_) λa pn=> ?_)
  ·exact aX<|rG (vE (ds:=[cJ p,lK L,.int b]) (dds:=[]) GB.2 (rR rfl) hr rfl (aB (pdv 0) (aB (pdv 1)<|aB (pdv 2) aM)) (λ_=>RepL.nil) ⟨p,L,b,hp,S,N,⟨b3,g⟩,rfl⟩ rfl<|Takes.o tk)
  ·refine aX<|lE (d:=.str "great") 3 (vK (rs:=[.val (vB<|.ref CG)]) GC (aCU hr (show 1<=6 by decide)) rfl (aB (pdv 4) aM) aCV ⟨true,rfl,rfl⟩ rfl rfl) ?_;exact aX (iQ<|pdv 3)
 ·rw[if_neg g];refine aO<|aAQ (aX<|aBE (pdc (ds:=[cJ p,lK L,.int b]) GB.1 hr (aB (pdv 0) (aB (pdv 1)<|aB (pdv 2) aM)) ⟨p,L,b,hp,S,N,⟨S.le,b3,by omega⟩,rfl,rfl⟩) ?_);exact aX (iQ<|pdv 3)
theorem aFs{CG CW CL CC CT CI:BF}(F:FI K mg "_law_told" aLy)(xk:aNN K mg CG CW CL CC CT CI)(GP:(CalleeE [.none] P w K mg base "piece_for" 9 6 aIY/\eW P w K mg base "piece_for" 9 6 aIQ (.ref CG) [] [])/\eW P w K mg base "piece_for" 9 6 pO (.ref CW) [] [])(GC:pZ P w K mg base "_law_class" 1 1 (aOj CG CW)):bF P w K mg base "_law_told" 10 5 aLz:=by
 refine dC (N:=["_law_size","_law_kit","_law_row","_law_window","_law_looked_here","_law_found","_law_e"]) (ps:=["_law_size","_law_kit","_law_row","_law_window","_law_looked_here"]) (k:=9) F λf nd cdv A outer s H E hr ds r hl c=> ?_
 obtain⟨p,L,row,c,o,x,hc,rfl,rfl⟩:=c;refine aO<|lE (d:=.str "none") 5 fU ?_
 rcases hc with⟨pl,mn,rfl,I,rfl⟩|⟨pl,mn,rfl,I,rfl⟩|⟨hw,rfl⟩
 ·refine aO<|aAQ (aX<|aBE (pdc (ds:=[cJ p,lK L,tN row,.int (pl:Int),.int (mn:Int),lkD o]) GP.1.1.full hr (aB (pdv 0)<|aB (pdv 1) (aB (pdv 2)<|aB (pdx (n:=0) (d:=.int (pl:Int))<|pdv 3) (aB (pdx (n:=1) (d:=.int (mn:Int))<|pdv 3)<|aB (pdv 4) aM))) ⟨p,L,row,pl,mn,o,I,rfl,rfl⟩) ?_);exact aX (iQ<|pdv 5)
 ·refine aO (uE (cls:=.ref CG) 6 nd rfl rfl rfl xk.le xk.g.le (λξ pn F0 tk=> ?_) λa pn=> ?_)
  ·exact aX<|rG (vE (ds:=[cJ p,lK L,tN row,.int (pl:Int),.int (mn:Int),lkD o]) (dds:=[]) GP.1.2 (rR rfl) hr rfl (aB (pdv 0)<|aB (pdv 1) (aB (pdv 2)<|aB (pdx (n:=0) (d:=.int (pl:Int))<|pdv 3) (aB (pdx (n:=1) (d:=.int (mn:Int))<|pdv 3)<|aB (pdv 4) aM))) (λ_=>RepL.nil) ⟨p,L,row,pl,mn,o,I,rfl⟩ rfl<|Takes.o tk)
  ·refine aX<|lE (d:=.str "great") 5 (vK (rs:=[.val (vB<|.ref CG)]) GC (aCU hr (show 1<=9 by decide)) rfl (aB (pdv 6) aM) aCV ⟨true,rfl,rfl⟩ rfl rfl) ?_;exact aX (iQ<|pdv 5)
 ·refine aO (uE (cls:=.ref CW) 6 nd rfl rfl rfl xk.le xk.w.le (λξ pn F0 tk=> ?_) λa pn=> ?_)
  ·exact aX<|rG (vE (ds:=[cJ p,lK L,tN row,.int c.1,.int c.2,lkD o]) (dds:=[]) GP.2 (rR rfl) hr rfl (aB (pdv 0)<|aB (pdv 1) (aB (pdv 2)<|aB (pdx (n:=0) (d:=.int c.1)<|pdv 3) (aB (pdx (n:=1) (d:=.int c.2)<|pdv 3)<|aB (pdv 4) aM))) (λ_=>RepL.nil) ⟨p,L,row,c.1,c.2,lkD o,rfl,hw⟩ rfl<|Takes.o tk)
  ·refine aX<|lE (d:=.str "window") 5 (vK (rs:=[.val (vB<|.ref CW)]) GC (aCU hr (show 1<=9 by decide)) rfl (aB (pdv 6) aM) aCV ⟨false,rfl,rfl⟩ rfl rfl) ?_;exact aX (iQ<|pdv 5)
theorem aMq(L:List SK):pl (.lst<|L.map skD)=true:=aAk skD (λs=>(aLF s).1) L
theorem aJl(L:List SK):dep (.lst<|L.map skD)<=3:=Nat.succ_le_succ<|uY skD 2 (λs=>(aLF s).2) L
abbrev nl16:List Str:=["_law_script","_law_size","_law_kit","_law_kept","_law_row","_law_looked_here","_law_many","_law_place"]
set_option maxHeartbeats 2000000 in
theorem aNe(F:Fun K "law" "law" xF f fd)(zlist:mg "list"=none)(zlen:mg "len"=none)(zrange:mg "range"=none)(ztuple:mg "tuple"=none)(GC:bF P w K mg base "_law_cell_at" 1 2 aIZ)(GM:bF P w K mg base "_law_mixed" 1 2 aDe)(GL:bF P w K mg base "_law_looked" 1 2 aHK)(GS:bF P w K mg base "_law_stock" 2 2 aHI)(GB:bF P w K mg base "_law_book" 7 3 aLR)(GT:bF P w K mg base "_law_told" 10 5 aLz):FnOk P w K mg base CX0 11 f fd ["_law_script"] (spC K 1 aNL):=by
 have nd:nl16.Nodup:=by decide+kernel
 have nd2:(["_law_k","_law_script","_law_kit"]:List Str).Nodup:=by decide+kernel
 refine aHP (N:=nl16) (ps:=["_law_script"]) (k:=10) F ⟨rfl,rfl,rfl,nd,rfl,by decide+kernel,by decide+kernel⟩ λcdv A outer s H E hr ds r hl c=> ?_
 obtain⟨ns,rfl,hns,rfl⟩:=c;have hu:=uN hr 6;have cell:∀ {sd:List Slot}{p1 p2 p3 p4:Pos}{j1:Nat} (k:Nat),k<=1000->sd[0]? =some (.val<|.scr ns)->PEd (jB CX0 P w K mg base nl16 "law" (aK xF) f cdv A outer s H E).nox sd (.Call (.Name "_law_cell_at" p1) [.Name "_law_script" p2, .Constant (.int (k:Int)) j1 p3] [] p4) (.val (.int<|ns.getD k 0)):=λk hk hs=>pdc (ds:=[.scr ns,.int (k:Int)]) GC hr (aB (aDi 0 hs<|pv 0)<|aB cE aM) ⟨ns,k,rfl,hk,rfl⟩
 obtain⟨hp,es⟩:=aKh<|ns.getD 0 0;refine aO<|lE (d:=cJ (aLo<|ns.getD 0 0)) 1 (aAq (i:=ns.getD 0 0%4) (PEd.bor (PEd.val<|pdL (ds:=[cJ (2,2),cJ (1,4),cJ (4,1),cJ (2,2)]) ?_)) (dR gY (cell 0 (by decide) rfl) cE<|by decide) (cZ _<|by decide) es λ_ _=>rfl) ?_
 ·exact aB (pdT (ds:=[.int 2,.int 2]) (aB cE<|aB cE aM))<|aB (pdT (ds:=[.int 1,.int 4]) (aB cE<|aB cE aM)) (aB (pdT (ds:=[.int 4,.int 1]) (aB cE<|aB cE aM))<|aB (pdT (ds:=[.int 2,.int 2]) (aB cE<|aB cE aM)) aM)
 generalize aLo (ns.getD 0 0)=p at hp;refine aO<|qL (ds:=(ktN p ns 4 1 8).map skD) 2 (pdc (ds:=[.scr ns,cJ p]) GS hr (aB (pdv 0)<|aB (pdv 1) aM) ⟨ns,p,hp,rfl,rfl⟩) λl2=>iB 2 rfl ?_;have S:=aON hp ns 4 (show(1:Int)<=1 by decide) (by decide) (show 0<8 by decide) (by decide);have N0:=aIw p ns 4 1 8;have P1:=aCP p ns 4 8;generalize ktN p ns 4 1 8=L at S N0 P1;have n0:(0:Int)<(L.length:Int):=by have:=S.pos;omega
 refine aO<|qL (ds:=L.map skD) 3 (wX rfl zlist (PEd.bor<|pdv 2)) λl3=>iB 3 rfl ?_;refine aO<|lE (d:=.tup (bT<|aID ns L.length)) 4 (kQ rfl ztuple<|PEd.bor (PEd.val<|PEd.cast (pdC (ds:=gX 0 8) (N:=["_law_k","_law_script","_law_kit"]) (M:=nl16) (cap:=[none,some 0,some 2]) (sc:=aK xF) (Tb:=λd=>[.val d,.val<|.scr ns,.val<|lK L]) (λ_=>true) (λd=>match d with | .int k=>D.int (((lX (ns.getD (12+k.toNat) 0) k.toNat%(L.length:Int)).toNat:Nat):Int)|_=>.non) (kR (n:=8) rfl zrange cE<|by omega) (by rw[gZ];omega) (λcl C fp s H d hd=>.inl ⟨rfl,rfl⟩) λcl C fp s H d hd _=> ?_) (?_:_=R.own (bT<|aID ns L.length)))) ?_
 ·obtain⟨k,hk,rfl⟩:=aQ.mp hd;have hk:=cU.mp hk;have r1:=cZ (lX (ns.getD (12+k) 0) k)<|iS n0;show PEd _ _ _ (.val<|.int (((lX (ns.getD (12+(0+(k:Int)).toNat) 0) (0+(k:Int)).toNat%(L.length:Int)).toNat:Nat):Int));rw[sW,dJ,Int.toNat_of_nonneg r1];exact dR gY (pdc (ds:=[.int<|ns.getD (12+k) 0,.int (k:Int)]) GM hr (aB (pdc (ds:=[.scr ns,.int ((12+k:Nat):Int)]) GC hr (aB (pdv 1)<|aB (PEd.ic (fY iG cE<|pdv 0)<|by omega) aM) ⟨ns,12+k,rfl,by omega,rfl⟩)<|aB (pdv 0) aM) ⟨_,k,rfl,by omega,rfl⟩) (PEd.ic (tH rfl zlen (PEd.bor<|pdv 2))<|by rw[aC]) n0
 ·rw[cV.mpr λ_ _=>rfl,oM];unfold bT aID;rw[aV,aV];rfl
 obtain⟨hrow,hrl⟩:=aKP ns S.pos;generalize aID ns L.length=row at hrow hrl;refine aO<|qL (ds:=bT<|aHy (ns.getD 1 0) p.2.toNat) 5 (pdc (ds:=[.int<|ns.getD 1 0,cJ p]) GL hr (aB (cell 1 (by decide) rfl)<|aB (pdv 1) aM) ⟨_,p,hp,rfl,rfl⟩) λl5=>iB 5 rfl ?_;obtain⟨lb,hb⟩:=aJj (ns.getD 1 0) p.2.toNat;obtain⟨z1,z2,z3,z4,z5⟩:=vZ p hp;generalize aHy (ns.getD 1 0) p.2.toNat=bs at lb hb;have lb:bs.length<=100:=by omega
 have hlk:aLa p (some bs):=λl q=>by cases q;exact⟨lb,hb⟩
 have I:McZ p L row (some bs):=⟨hp,S,N0,hrow,by omega,hlk⟩;have m0:=cZ (ns.getD 2 0) (show(6:Int)≠0 by decide);have m1:=cS (ns.getD 2 0) (show(0:Int)<6 by decide);obtain⟨mn,hmn⟩:∃mn:Nat,3+ns.getD 2 0%6=(mn:Int):=⟨(3+ns.getD 2 0%6).toNat,by omega⟩;have m9:(0:Int)<9-(mn:Int):=by omega
 have q0:=cZ (ns.getD 2 0 / 6)<|iS m9;have q1:=cS (ns.getD 2 0 / 6) m9;obtain⟨pl,hpl⟩:∃pl:Nat,ns.getD 2 0 / 6%(9-(mn:Int))=(pl:Int):=⟨(ns.getD 2 0 / 6%(9-(mn:Int))).toNat,by omega⟩;refine aO<|lE (d:=.int (mn:Int)) 6 (PEd.ic (fY iG cE (dR gY (cell 2 (by decide) rfl) cE<|by decide)) hmn) ?_;refine aO<|lE (d:=.int (pl:Int)) 7 (PEd.ic (dR gY (dR lD (cell 2 (by decide) rfl) cE ⟨by decide,by decide⟩) (fY mX cE<|pdv 6) m9) hpl) ?_;have hw:pl+mn<=row.length:=by omega
 have epw:=aHQ P1 hrow hw
 have hc:(∃pl' mn':Nat,((pl:Int),(mn:Int))=((pl':Int),(mn':Int))/\aLd p L row pl' mn' (some bs)/\(if 500<(bkF p L<|(mn:Int)-1).length then "great" else "none":Str)="none")\/(∃pl' mn':Nat,((pl:Int),(mn:Int))=((pl':Int),(mn':Int))/\PcX p L row pl' mn' (some bs)/\(if 500<(bkF p L<|(mn:Int)-1).length then "great" else "none":Str)="great")\/(aFF row ((pl:Int),(mn:Int)).1 ((pl:Int),(mn:Int)).2=false/\(if 500<(bkF p L<|(mn:Int)-1).length then "great" else "none":Str)="window"):=by
  by_cases g:500<(bkF p L<|(mn:Int)-1).length
  ·rw[if_pos g];exact .inr<|.inl ⟨pl,mn,rfl,I.px (by omega) hw (by rw[epw];exact g),rfl⟩
  ·rw[if_neg g];exact .inl ⟨pl,mn,rfl,I.pc (by omega) hw (by rw[epw];exact g),rfl⟩
 refine aKX (aEa (pdc (ds:=[cJ p,lK L,.tup<|bT row,w2D ((pl:Int),(mn:Int)),.lst<|bT bs]) (r:=.val<|.str (if 500<(bkF p L<|(mn:Int)-1).length then "great" else "none")) GT hr (aB (pdv 1) (aB (pdv 2)<|aB (pdv 4) (aB (pdT (ds:=[.int (pl:Int),.int (mn:Int)]) (aB (pdv 7)<|aB (pdv 6) aM))<|aB (pdv 5) aM))) ⟨p,L,row,((pl:Int),(mn:Int)),some bs,_,hc,rfl,rfl⟩) (pdc (ds:=[cJ p,lK L,.int<|(mn:Int)-1]) GB hr (aB (pdv 1) (aB (pdv 2)<|aB (fY mX (pdv 6) cE) aM)) ⟨p,L,(mn:Int)-1,hp,S,N0,by omega,rfl,rfl⟩) rfl rfl rfl<|by rw[decide_eq_true rfl];rfl) ?_
 have hz:aFF row (9-(mn:Int),(mn:Int)).1 (9-(mn:Int),(mn:Int)).2=false:=by show(_&&(_&&decide (9-(mn:Int)+(mn:Int)<=(row.length:Int))))=false;rw[decide_eq_false (show ¬ 9-(mn:Int)+(mn:Int)<=(row.length:Int) by omega),zB,zB]
 refine aKX (aEa (pdc (ds:=[cJ p,lK L,.tup<|bT row,w2D (9-(mn:Int),(mn:Int)),.lst<|bT bs]) (r:=.val<|.str "window") GT hr (aB (pdv 1) (aB (pdv 2)<|aB (pdv 4) (aB (pdT (ds:=[.int<|9-(mn:Int),.int (mn:Int)]) (aB (fY mX cE<|pdv 6)<|aB (pdv 6) aM))<|aB (pdv 5) aM))) ⟨p,L,row,(9-(mn:Int),(mn:Int)),some bs,_,.inr<|.inr ⟨hz,rfl⟩,rfl,rfl⟩) (d2:=.str "window") fU rfl rfl rfl rfl) ?_;have h1:aLd p L row pl 1 (some bs):=I.pc (by decide) (by omega) (by rw[aHQ P1 hrow<|by omega];exact aKk S P1);have ph:=aMq L;have dh:=aJl L;exact aX<|eJ (PEd.cast (aDb (k:=true) (j:=true) (aNx (pdc (ds:=[cJ p,lK L,.tup<|bT row,w2D ((pl:Int),((1:Nat):Int)),.lst<|bT bs]) (r:=.val<|.str "none") GT hr (aB (pdv 1) (aB (pdv 2)<|aB (pdv 4) (aB (pdT (ds:=[.int (pl:Int),.int ((1:Nat):Int)]) (aB (pdv 7)<|aB cE aM))<|aB (pdv 5) aM))) ⟨p,L,row,((pl:Int),((1:Nat):Int)),some bs,_,.inl ⟨pl,1,rfl,h1,rfl⟩,rfl,rfl⟩) (d2:=.str "none") fU rfl rfl rfl rfl) λ_=>aIo (PEd.cast (aMY (ra:=.val<|lK L) (rb:=.val<|lK L) (pdv 2) (pdv 3) trivial trivial (.inr ⟨rfl,rfl⟩) ph ph (u_of hu<|by show dep (.lst _)+1<=6;omega))<|by show R.val (.bl (deq (.lst _)<|.lst _))=_;rw[uJ _ ph])) rfl) trivial rfl
end
theorem aAs{t1 t2 t3:Tok}:Vals [V.str "not",V.str "up",V.str "down"] (#[Value.str "not" t1,Value.str "up" t2,Value.str "down" t3]:Array BD).toList:=.cons ⟨_,rfl⟩ (.cons ⟨_,rfl⟩<|.cons ⟨_,rfl⟩ .nil)
theorem all_mk{P:AE}{w:AL}{K:aA}{h:BH}{mg:Str->Option BD}{fa:BF}(X:K.In h)(G:h.Ns AO mg)(hfa:mg "law"=some (.ref fa))
  {odL anL:Option BF}{slL:Array (Option BD)}{ocL kVL dcL pmL cdL ctL:BD}{fL:BF}{fBY:BF}{dB:Option BF}{t1 t2 t3:Tok}{nB:Nat}{sB:Array (Option BD)}{tmst:Tok}{CG CW CL CC CT CI:BF}{cdyg cdyw:ClassData}{CS fSI:BF}{odSh anSh:Option BF}{slSh:Array (Option BD)}{ocSh kVSh dcSh pmSh cdSh ctSh:BD}{fSB:BF}{odBu anBu:Option BF}{slBu:Array (Option BD)}{ocBu kVBu dcBu pmBu cdBu ctBu:BD}
   (aL:eM K AO "law"=some (some<|.ref fL)) (lL:K.lookup fL=some ⟨ocL,odL,.func<|bY "law" "law" (dW xF) (cM xF) (aK xF) .none kVL dcL pmL anL cdL ctL,slL⟩) (cL:eL K cdL "law"=true) (kL:cG K (.ref fL)=true) (zrange:mg "range"=none) (ztuple:mg "tuple"=none) (zenumerate:mg "enumerate"=none) (zlen:mg "len"=none) (zmin:mg "min"=none) (zlist:mg "list"=none) (zsorted:mg "sorted"=none) (zsum:mg "sum"=none) (zisinstance:mg "isinstance"=none) (aBY:eM K AO "BY_ITSELF"=some (some<|.ref fBY)) (lBY:K.lookup fBY=some ⟨.type "tuple",dB,.seq #[.str "not" t1,.str "up" t2,.str "down" t3] nB,sB⟩) (amst:eM K AO "MOST_TABLES"=some (some<|.int 500 tmst)) (aCG:eM K AO "TooGreat"=some (some<|.ref CG)) (aCW:eM K AO "NoWindow"=some (some<|.ref CW)) (aCL:eM K AO "LeastError"=some (some<|.ref CL)) (aCC:eM K AO "NoChange"=some (some<|.ref CC)) (aCT:eM K AO "NoText"=some (some<|.ref CT)) (aCI:eM K AO "NoWish"=some (some<|.ref CI)) (nVE:eM K AO "ValueError"=some none) (xgg:jL K (.ref CG) (.ref CG)=some true) (yga:cA K (.ref CG) "__class__"=some (some<|.builtin "object.__class__")) (ygm:xP K CG (.type "object")=some true) (ygs:aKU K (.ref CG) (.type "BaseException")=some true) (ygg:cA K (.ref CG) "__getattribute__"=some (some<|.builtin "BaseException.__getattribute__")) (ygn:cA K (.ref CG) "__getattr__"=some none) (ygc:aKV K CG=some cdyg) (ygx:iT K CG [.type "ValueError",.type "Exception",.type "BaseException",.type "object"] "ValueError.__new__"=true) (ygl:jL K (.ref CG) (.ref CL)=some true) (ygv:cH K (.ref CG) (.type "ValueError")=some true) (yg0:cH K (.ref CG) (.ref CC)=some false) (yg1:cH K (.ref CG) (.ref CT)=some false) (yg2:cH K (.ref CG) (.ref CI)=some false) (yg3:cH K (.ref CG) (.ref CG)=some true) (yg4:cH K (.ref CG) (.ref CW)=some false) (ywa:cA K (.ref CW) "__class__"=some (some<|.builtin "object.__class__")) (ywm:xP K CW (.type "object")=some true) (yws:aKU K (.ref CW) (.type "BaseException")=some true) (ywg:cA K (.ref CW) "__getattribute__"=some (some<|.builtin "BaseException.__getattribute__")) (ywn:cA K (.ref CW) "__getattr__"=some none) (ywc:aKV K CW=some cdyw) (ywx:iT K CW [.type "ValueError",.type "Exception",.type "BaseException",.type "object"] "ValueError.__new__"=true) (ywl:jL K (.ref CW) (.ref CL)=some true) (ywv:cH K (.ref CW) (.type "ValueError")=some true) (yw0:cH K (.ref CW) (.ref CC)=some false) (yw1:cH K (.ref CW) (.ref CT)=some false) (yw2:cH K (.ref CW) (.ref CI)=some false) (yw3:cH K (.ref CW) (.ref CG)=some false) (yw4:cH K (.ref CW) (.ref CW)=some true) (aSh:eM K AO "Shelf"=some (some<|.ref CS)) (iSh:cA K (.ref CS) "__init__"=some (some<|.ref fSI)) (fSh:nA K (.ref fSI)=true) (lSh:K.lookup fSI=some ⟨ocSh,odSh,.func<|bY "__init__" "Shelf.__init__" (dW aKY) (cM aKY) (aK aKY) .none kVSh dcSh pmSh anSh cdSh ctSh,slSh⟩) (cSh:eL K cdSh "Shelf.__init__"=true) (kSh:cG K (.ref fSI)=true) (pgSh:jS K CS Str.empty=true) (hdSh:lS K CS=true) (poSh:rB K CS=true) (saSh:cA K (.ref CS) "__setattr__"=some (some<|.builtin "object.__setattr__")) (mkSh:tE K CS=true) (kcSh:cG K (.ref CS)=true) (nZSh:cA K (.ref CS) "size"=some none) (nSSh:cA K (.ref CS) "stock"=some none) (nMSh:cA K (.ref CS) "made"=some none) (iBu:cA K (.ref CS) "book_up_to"=some (some<|.ref fSB)) (fBu:nA K (.ref fSB)=true) (lBu:K.lookup fSB=some ⟨ocBu,odBu,.func<|bY "book_up_to" "Shelf.book_up_to" (dW aIF) (cM aIF) (aK aIF) .none kVBu dcBu pmBu anBu cdBu ctBu,slBu⟩) (cBu:eL K cdBu "Shelf.book_up_to"=true) (kBu:cG K (.ref fSB)=true) (hC:FI K mg "word_count" aIb) (hEa:FI K mg "with_each_word" aCH) (hFi:FI K mg "fillings" aLK) (hNu:FI K mg "number_of" aPd) (hI:FI K mg "word_by_itself" aEo) (hA:FI K mg "word_by_another" aBB) (hN:FI K mg "new_word" aBo) (hB:FI K mg "written_box" aBk) (hS:FI K mg "step_on" aEm) (hNo:FI K mg "numbers_of_step" aOn) (hMo:FI K mg "moves_of" aDo) (hNb:FI K mg "numbers_behind" aIW) (hPu:FI K mg "put_longer_rows" aPs) (hFo:FI K mg "found_rows" sFd) (hTf:FI K mg "table_from" aCN) (hBk:FI K mg "book_of" aIR) (hR:FI K mg "row_on" aHZ) (hTa:FI K mg "table_of" aDa) (hBo:FI K mg "boxes_looked_at" aHL) (hWi:FI K mg "words_in" tZ) (hIw:FI K mg "is_window" aHT) (hWt:FI K mg "words_told" aDs) (hFb:FI K mg "fillings_by_words" aPA) (hWa:FID K mg "wish_at" aLt) (hMs:FI K mg "misses_at" aMa) (hDo:FI K mg "does_wish" aLG) (hFt:FI K mg "first_that_does" sFt) (hP:FI K mg "price_of" aDk) (hSa:FI K mg "steps_at" aAV) (hPf:FI K mg "piece_from" vY) (hPo:FID K mg "piece_for" aFL) (hCa:FI K mg "_law_cell_at" aDv) (hMi:FI K mg "_law_mixed" aHN) (hQ:FI K mg "_law_step" aDA) (hLk:FI K mg "_law_looked" aAm) (hSt:FI K mg "_law_stock" qJ) (hCl:FI K mg "_law_class" aIs) (hLb:FI K mg "_law_book" aPe) (hTo:FI K mg "_law_told" aLy):
  ∃fd:AN,(∀ (s:BE) (v:BD),BindsTo s fd ⟨[v],[]⟩ [("_law_script",v)])/\∀base:BH,K.In base->base.Ns AO mg->FnOk P w K mg base CX0 11 fa fd ["_law_script"] (spC K 1 aNL):=by
 have e:=hfa.symm.trans<|dN X G aL;cases e;have byself:∃ad,mg "BY_ITSELF"=some (.ref ad)/\∀H:Hp,SqT K H ad [V.str "not",V.str "up",V.str "down"]:=⟨_,dN X G aBY,λH=>.inr ⟨_,_,_,lBY,rfl,rfl,hZ rfl,aAs⟩⟩;have mst:∃t,mg "MOST_TABLES"=some (.int 500 t):=⟨_,dN X G amst⟩;have xk:aNV K mg CG:=⟨ygx,dN X G aCG,xgg⟩;have xw:Xw8 K mg CW:=⟨ywx,dN X G aCW,trivial⟩;have xq:aNN K mg CG CW CL CC CT CI:=⟨dN X G aCL,dN X G aCC,dN X G aCT,dN X G aCI,dN X G aCG,dN X G aCW,aCE X G nVE,⟨⟨yga,ygm,ygs,ygg,ygn,by rw[ygc];rfl⟩,ygl,ygv,yg0,yg1,yg2,yg3,yg4⟩,⟨⟨ywa,ywm,yws,ywg,ywn,by rw[ywc];rfl⟩,ywl,ywv,yw0,yw1,yw2,yw3,yw4⟩⟩;have shT:nE K mg CS:=⟨⟨pgSh,hdSh,poSh,saSh⟩,nZSh,nSSh,nMSh,dN X G aSh⟩;have shM:Mk K CS fSI:=⟨mkSh,iSh,fSh,kcSh⟩;have shF:=zO (st:=aKY) lSh cSh kSh;have mBu:aKW K CS "book_up_to" fSB:=⟨iBu,fBu,kBu⟩;have shB:=zO (st:=aIF) lBu cBu kBu;have FL:=zO (st:=xF) lL cL kL;refine⟨bY "law" "law" (dW xF) (cM xF) (aK xF) .none kVL dcL pmL anL cdL ctL,λs v=>.of_eq rfl,λbase _ _=> ?_⟩;have GC:=aGo (P:=P) (w:=w) (base:=base) hC zrange;have GEa:=aKR (P:=P) (w:=w) (base:=base) hEa zrange;have GFi:=aKv hFi zrange GC GEa;have GNu:=aNa hNu GC;have GI:=aED (P:=P) (w:=w) (base:=base) hI;have GA:=aCu (P:=P) (w:=w) (base:=base) hA;have GN:=aCq hN byself GC GI GA;have GB:=aCv (P:=P) (w:=w) (base:=base) hB;have GS:=aEp hS GB GN;have GNo:=aGj hNo ztuple GNu GS GFi;have GMo:=aCf hMo GNo;have GNb:=aEK (P:=P) (w:=w) (base:=base) hNb ztuple;have GPu:=aGJ hPu zenumerate GNb;have GFo:=aCx hFo zlen zmin zlist zsorted mst xk GPu;have GTf:=aBP (P:=P) (w:=w) (base:=base) hTf ztuple;have GBk:=aER hBk zlen zrange ztuple GFi GMo GFo GTf;have GR:=aGR hR GS;have GTa:=aFY hTa ztuple GFi GR;have GBo:=aHn (P:=P) (w:=w) (base:=base) hBo zlist zrange;have GWi:=aCd (P:=P) (w:=w) (base:=base) hWi;have GIw:=aBM (P:=P) (w:=w) (base:=base) hIw zlen;have GWt:=aCm hWt ztuple GWi;have GFb:=aGa hFb zenumerate GFi;have GWa:=aGc hWa zlist zenumerate xw GIw GBo GTa GWt GFb GFi;have GMs:=aEq hMs zenumerate GFi;have GDo:=aJM hDo GMs;have GFt:=aJF hFt GDo;have GP:=aGr (P:=P) (w:=w) (base:=base) hP zsum;have GSa:=aBV (P:=P) (w:=w) (base:=base) hSa;have GPf:=aCw hPf shT mBu shB GBk GWa GSa GP GFt;have GPo:=aEt hPo shT shM shF GPf;have GCa:=aFj (P:=P) (w:=w) (base:=base) hCa zlen;have GMi:=aGF (P:=P) (w:=w) (base:=base) hMi;have GQ:=aEC (P:=P) (w:=w) (base:=base) hQ;have GLk:=aEZ (P:=P) (w:=w) (base:=base) hLk zlist zrange;have GSt:=aCh hSt zrange GCa GMi GQ;have GCl:=aBQ (P:=P) (w:=w) (base:=base) hCl zisinstance xq;have GLb:=aCs hLb xq GBk GCl;have GTo:=aFs hTo xq GPo GCl;exact aNe FL zlist zlen zrange ztuple GCa GMi GLk GSt GLb GTo
end K78
open PySem PySem.W PyProof.Rows
namespace PySem.W.Fast
theorem tw11017298953307282521:True:=trivial
theorem tw11141576476260630982:True:=trivial
theorem tw11337054350194125668:True:=trivial
theorem tw1146807080389542415:True:=trivial
theorem tw11640510759616165872:True:=trivial
theorem tw11918222795151882448:True:=trivial
theorem tw12188945877768006148:True:=trivial
theorem tw12599392233690965437:True:=trivial
theorem tw1282722682490863858:True:=trivial
theorem tw12969858179366590558:True:=trivial
theorem tw13338940595299562672:True:=trivial
theorem tw13473334852669508595:True:=trivial
theorem tw13578732237064522907:True:=trivial
theorem tw13736233045856544326:True:=trivial
theorem tw14372770309270772102:True:=trivial
theorem tw15156133567618528885:True:=trivial
theorem tw15454926485143677810:True:=trivial
theorem tw15564414497051954543:True:=trivial
theorem tw15654688810685305572:True:=trivial
theorem tw15728900992520347858:True:=trivial
theorem tw1627481301104774070:True:=trivial
theorem tw16439478539097423164:True:=trivial
theorem tw16640839267852302298:True:=trivial
theorem tw16772912360858570265:True:=trivial
theorem tw17075679667274234964:True:=trivial
theorem tw17101581802812530470:True:=trivial
theorem tw17347620920566516325:True:=trivial
theorem tw17364077888680052410:True:=trivial
theorem tw17660270982062615289:True:=trivial
theorem tw17697332025961221776:True:=trivial
theorem tw17837635125549789099:True:=trivial
theorem tw18295959763872358306:True:=trivial
theorem tw2006334645530298731:True:=trivial
theorem tw2277751381555178872:True:=trivial
theorem tw2462980948323830163:True:=trivial
theorem tw3022511541583510256:True:=trivial
theorem tw3371375771348089268:True:=trivial
theorem tw3590015473638394358:True:=trivial
theorem tw3903255290050344419:True:=trivial
theorem tw4051908325368125944:True:=trivial
theorem tw4247280746486114177:True:=trivial
theorem tw4854410880733486028:True:=trivial
theorem tw528286607753437127:True:=trivial
theorem tw5303639737274612723:True:=trivial
theorem tw5311353546386301926:True:=trivial
theorem tw5683808684669473600:True:=trivial
theorem tw6044317118649785552:True:=trivial
theorem tw6123974425382267377:True:=trivial
theorem tw6173938282982105054:True:=trivial
theorem tw6292559353710593413:True:=trivial
theorem tw6307899495265960636:True:=trivial
theorem tw6802946842950527136:True:=trivial
theorem tw7383889153502954129:True:=trivial
theorem tw7769453909314068868:True:=trivial
theorem tw7773181323934117341:True:=trivial
theorem tw7828444658720119941:True:=trivial
theorem tw8548574784502521500:True:=trivial
theorem tw8778255579087324885:True:=trivial
theorem tw8962210805348605740:True:=trivial
theorem tw945663934430083578:True:=trivial
theorem tw9558623655759053992:True:=trivial
theorem tw9726161863827711439:True:=trivial
end PySem.W.Fast
set_option maxRecDepth 100000 in
set_option maxHeartbeats 0 in
theorem PySem.Challenge.cw_leastrow_k78_windows_too_great_holds : PySem.Challenge.rw_leastrow_k78_windows_too_great.Holds := by
 w_on;o_law;k_head;(case hw=>w_witness2)
 k_fill
 refine DL.walkD (l:=PySem.Challenge.rw_leastrow_k78_windows_too_great) (k:=11) (x:="_law_script") rfl rfl ⟨rfl,by decide,by decide,rfl⟩ (λw h Y=>PySem.W.kIn_of Y) ?F
 case F=>
  intro w mg fa h KX G hmg;refine' K78.all_mk KX G hmg ?aL ?lL ?cL ?kL ?zrange ?ztuple ?zenumerate ?zlen ?zmin ?zlist ?zsorted ?zsum ?zisinstance ?aBY ?lBY ?amst ?aCG ?aCW ?aCL ?aCC ?aCT ?aCI ?nVE ?xgg ?yga ?ygm ?ygs ?ygg ?ygn ?ygc ?ygx ?ygl ?ygv ?yg0 ?yg1 ?yg2 ?yg3 ?yg4 ?ywa ?ywm ?yws ?ywg ?ywn ?ywc ?ywx ?ywl ?ywv ?yw0 ?yw1 ?yw2 ?yw3 ?yw4 ?aSh ?iSh ?fSh ?lSh ?cSh ?kSh ?pgSh ?hdSh ?poSh ?saSh ?mkSh ?kcSh ?nZSh ?nSSh ?nMSh ?iBu ?fBu ?lBu ?cBu ?kBu ..
  (case aL|lL|cL|kL|aBY|lBY|amst|aCG|aCW|aCL|aCC|aCT|aCI|nVE|yga|ygm|ygs|ygg|ygn|ygc|ywa|ywm|yws|ywg|ywn|ywc|aSh|iSh|fSh|lSh|cSh|kSh|pgSh|hdSh|poSh|saSh|mkSh|kcSh|nZSh|nSSh|nMSh|iBu|fBu|lBu|cBu|kBu=>k_is);(case zrange|ztuple|zenumerate|zlen|zmin|zlist|zsorted|zsum|zisinstance=>refine' aCE KX G ?a;(case a=>k_is));(case xgg=>kts_exm);(case ygx=>k_exc);(case ygl=>kts_exm);(case ygv=>kit_is);(case yg0=>kit_is);(case yg1=>kit_is);(case yg2=>kit_is);(case yg3=>kit_is);(case yg4=>kit_is);(case ywx=>k_exc);(case ywl=>kts_exm);(case ywv=>kit_is);(case yw0=>kit_is);(case yw1=>kit_is);(case yw2=>kit_is);(case yw3=>kit_is);(case yw4=>kit_is)
  any_goals (refine' DL.FI.mk KX G ?a ?l ?c ?k;(case a|l|c|k=>k_is))
  any_goals (refine' DL.FID.mk KX G ?a ?l ?c ?k ?t;(case a|l|c|k|t=>k_is))
